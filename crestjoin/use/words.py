"""Words: the texts of lots, orders, numbers and rows, and what has them [22.1].

Where a word is the text of nothing, None is read: so lines can be looked at one by one.
"""

from crestjoin.base.lots import is_lot
from crestjoin.table.tables import MAX_DIGITS

LETTERS = "abcdef"
DIGITS = "0123456789"
NO_LETTERS = "-"
NO_NUMBERS = "."


def lot_word(letters):
    """The text of a lot, or of an order in its sequence."""
    return NO_LETTERS if letters == () else "".join([LETTERS[letter] for letter in letters])


def number_word(number):
    """The text of a number."""
    return str(number)


def row_word(row):
    """The text of a row."""
    return NO_NUMBERS if row == () else ",".join([number_word(number) for number in row])


def order_at(word):
    """The order, a tuple of letters, each once, that has the word as its text."""
    if word == NO_LETTERS:
        return ()
    letters = tuple([LETTERS.find(letter) for letter in word])
    if word == "" or -1 in letters or len(set(letters)) < len(letters):
        return None
    return letters


def lot_at(word):
    """The lot that has the word as its text."""
    letters = order_at(word)
    return letters if is_lot(letters) else None


def number_at(word):
    """The integer of at most nine digits that has the word as its text."""
    digits = word[1:] if word.startswith("-") else word
    if not 1 <= len(digits) <= MAX_DIGITS or not all([digit in DIGITS for digit in digits]):
        return None
    number = int(word)
    return number if number_word(number) == word else None


def row_at(word):
    """The row, of any number of integers of at most nine digits, that has the word as its text."""
    if word == NO_NUMBERS:
        return ()
    row = tuple([number_at(some) for some in word.split(",")])
    return None if None in row else row
