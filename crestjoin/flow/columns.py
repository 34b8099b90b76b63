"""What can be put into a flow, as the columns of a program that has a row for each lot."""

from itertools import combinations

from crestjoin.base.lots import are_apart, common_lot, lots_within
from crestjoin.flow.counted import CROSSING, DROP, gains_of, is_step_up

# A plan cuts a table at each crossing of lots with a common letter, and goes on with each piece alone.
COST_OF_A_CUT = 8


def lots_with_letters(lot):
    """All lots within the lot but `()`, ascending."""
    return lots_within(lot)[1:]


def crossings_and_drops(lot):
    """All crossings and drops of lots within the lot that have letters."""
    lots = list(lots_with_letters(lot))
    crossings = [(CROSSING, one, other) for one, other in combinations(lots, 2) if are_apart(one, other)]
    return crossings + [(DROP, low, high) for high in lots for low in lots_with_letters(high) if is_step_up(low, high)]


def effort_of(thing):
    """How much is to be saved by leaving the thing out, wherever a flow can be as good without it."""
    if thing[0] == CROSSING and common_lot(thing[1], thing[2]) != ():
        return COST_OF_A_CUT
    return 1


def rows_of(lot, things):
    """For each lot within the lot that has letters, ascending, the row of what each of the things adds there."""
    places = {some: place for place, some in enumerate(lots_with_letters(lot))}
    rows = [[0] * len(things) for _ in places]
    for column, thing in enumerate(things):
        for some, by in gains_of(thing):
            rows[places[some]][column] = rows[places[some]][column] + by
    return rows
