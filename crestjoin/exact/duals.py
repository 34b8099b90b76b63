"""Linear programs without costs below 0, of many columns, led to their end by exchanges that keep costs so."""

from crestjoin.exact.pivots import Form, exchanged


def least_form(rows, sides, costs):
    """The form of the program at which no exchange is left to do: its end is ("least",) or ("none", row).

    `costs` are several rows of costs from 0 on, the last one of which comes first: of points with the least costs
    by it one is found that has the least costs by the one ahead of it.
    """
    columns = len(costs[0])
    free = list(range(columns))
    basic = list(range(columns, columns + len(rows)))
    cells = [list(row) + [-side] for row, side in zip(rows, sides)] + [list(row) + [0] for row in costs]
    under = 1
    while True:
        lacking = [(row[-1], at) for at, row in enumerate(cells[:len(basic)]) if row[-1] < 0]
        if lacking == []:
            return Form(("least",), basic, free, cells, under)
        # The row that lacks most is mended: this takes far fewer exchanges than taking the first one.
        place = min(lacking)[1]
        column = _cheapest_column(basic, free, cells, place)
        if column is None:
            return Form(("none", place), basic, free, cells, under)
        following = cells[place][column]
        cells = exchanged(cells, place, column, under)
        under = following
        basic[place], free[column] = free[column], basic[place]


def _cheapest_column(basic, free, cells, place):
    # The column that mends the row with the least rise of costs; the others' costs stay from 0 on.
    best = None
    for column in range(len(free)):
        if cells[place][column] > 0 and (best is None or _is_cheaper(basic, free, cells, place, column, best)):
            best = column
    return best


def _is_cheaper(basic, free, cells, place, column, other):
    # Costs rise by cost over cell. Where they rise alike, each column of the program counts as costing a little
    # more, the first one most: then no two rise alike, so costs rise at each exchange and no form comes twice.
    here, there = cells[place][column], cells[place][other]
    for row in reversed(cells[len(basic):]):
        if row[column] * there != row[other] * here:
            return row[column] * there < row[other] * here
    rows = dict(zip(basic, cells))
    for name in range(len(free)):
        if name in rows:
            left, right = rows[name][column] * there, rows[name][other] * here
        else:
            left, right = there if free[column] == name else 0, here if free[other] == name else 0
        if left != right:
            return left < right
    return False
