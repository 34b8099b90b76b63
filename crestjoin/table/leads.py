"""What the parts of a question tell of a next letter: by it rows are led on, letter by letter.

A *lead* of a letter is what one part tells of it: a triple of the part's index, of the places in the order at
which the part's elder letters stand, and of a dict from the numbers there to the next numbers. These are a dict
with ascending keys, as they are looked up as well as gone through. Of numbers that no row of the part agrees with it
tells no next ones.
"""

from crestjoin.table.tables import part_at, parts_at

NONE = ()


def leads_of(parts, order):
    """For each letter of the order the leads of all parts with this letter, in the parts' sequence."""
    return [
        [_lead(index, part, order, place) for index, part in enumerate(parts) if letter in part.lot]
        for place, letter in enumerate(order)
    ]


def _lead(index, part, order, place):
    places = [elder for elder in range(place) if order[elder] in part.lot]
    letters = [order[elder] for elder in places] + [order[place]]
    numbers = {}
    for row in sorted(parts_at(part.rows, part.lot, letters)):
        known = row[:-1]
        if known not in numbers:
            numbers[known] = {}
        numbers[known][row[-1]] = True
    return (index, places, numbers)


def first_rows(parts):
    """The begun rows of no letters: one if each part has a row, else none."""
    return [()] if all([len(part) > 0 for part in parts]) else []


def asked_lead(leads, row):
    """The pair (part, next numbers) with the fewest next numbers at a begun row, of several the first."""
    best = None
    for index, places, numbers in leads:
        told = numbers.get(part_at(row, places), NONE)
        if best is None or len(told) < len(best[1]):
            best = (index, told)
    return best


def kept_numbers(leads, row, numbers):
    """Those of the numbers that all leads tell at a begun row."""
    kept = list(numbers)
    for lead in leads:
        told = lead[2].get(part_at(row, lead[1]), NONE)
        kept = [number for number in kept if number in told]
    return kept


def is_begun(parts, order, row):
    """Whether a tuple of integers is a begun row of so many first letters of the order."""
    if first_rows(parts) == []:
        return False
    leads = leads_of(parts, order[:len(row)])
    for place, number in enumerate(row):
        if kept_numbers(leads[place], row, [number]) == []:
            return False
    return True
