"""Linear programs led to their end by exchanges, and plain elimination, all in integers."""

from crestjoin.base.checks import common_divisor, lowest_point


class Form:
    """A program at the end of all exchanges.

    Each basic variable, and behind them the costs, is a sum of free variables and of a constant, which stands last;
    all cells stand over one number `under`, from 1 on. Of several rows of costs the last one comes first. The
    variables are the columns of the program, and behind them what its rows have over their sides. The end is
    ("least",), ("none", row) for a row that can't be mended, ("endless", column) for a column along which the costs
    fall.
    """

    def __init__(self, end, basic, free, cells, under):
        self.end = end
        self.basic = basic
        self.free = free
        self.cells = cells
        self.under = under


def ended_form(rows, sides, costs):
    """The form of the program at which no exchange is left to do.

    The exchanges are criss-cross: the least variable that is wrong goes, and the least one that mends it comes.
    So no form comes twice, and the exchanges end.
    """
    free = list(range(len(costs)))
    basic = list(range(len(costs), len(costs) + len(rows)))
    cells = [list(row) + [-side] for row, side in zip(rows, sides)] + [list(costs) + [0]]
    under = 1
    while True:
        end, row, column = _next_exchange(basic, free, cells)
        if end != ():
            return Form(end, basic, free, cells, under)
        following = abs(cells[row][column])
        cells = exchanged(cells, row, column, under)
        under = following
        basic[row], free[column] = free[column], basic[row]


def _next_exchange(basic, free, cells):
    wrong_rows = [(name, row) for row, name in enumerate(basic) if cells[row][-1] < 0]
    wrong_columns = [(name, column) for column, name in enumerate(free) if cells[-1][column] < 0]
    if wrong_rows == [] and wrong_columns == []:
        return (("least",), None, None)
    name, place = min(wrong_rows + wrong_columns)
    if (name, place) in wrong_rows:
        mending = [(other, column) for column, other in enumerate(free) if cells[place][column] > 0]
        return ((), place, min(mending)[1]) if mending else (("none", place), None, None)
    mending = [(other, row) for row, other in enumerate(basic) if cells[row][place] < 0]
    return ((), min(mending)[1], place) if mending else (("endless", place), None, None)


def exchanged(cells, row, column, under):
    """The cells, which stand over `under`, behind the exchange of a row's variable for a column's."""
    # Cells are minors of the first form, so each division by the number under the last form is whole.
    pivot = cells[row][column]
    sign = 1 if pivot > 0 else -1
    found = []
    for place, old in enumerate(cells):
        lead = old[column]
        if place == row:
            new = [-sign * cell for cell in old]
            new[column] = sign * under
        elif lead == 0 and sign * pivot == under:
            # Most rows of programs of flows: they stay as they are.
            new = old
        else:
            new = [sign * (cell * pivot - lead * other) // under for cell, other in zip(old, cells[row])]
            new[column] = sign * lead
        found.append(new)
    return found


def _numbers_at(names, cells, first, many):
    # The cell of each of `many` variables from `first` on, 0 for those that are not among the names.
    found = dict(zip(names, cells))
    return [found.get(first + place, 0) for place in range(many)]


def _shortened(numbers):
    divisor = common_divisor(numbers)
    return tuple([number // divisor for number in numbers])


def point_of(form, columns):
    """The point, in least terms, at which a form with a least one ends."""
    return lowest_point(form.under, _numbers_at(form.basic, [row[-1] for row in form.cells], 0, columns))


def prices_of(form, rows, columns):
    """The prices of the rows, a point in least terms, with which a form with a least point ends."""
    return lowest_point(form.under, _numbers_at(form.free, form.cells[-1], columns, rows))


def reason_of(form, rows, columns):
    """How often each row is taken to show that none fits, of a form that ends at a row that can't be mended."""
    place = form.end[1]
    reason = [-cell for cell in _numbers_at(form.free, form.cells[place], columns, rows)]
    if form.basic[place] >= columns:
        reason[form.basic[place] - columns] = form.under
    return _shortened(reason)


def way_of(form, columns):
    """The way along which the costs of a form fall that ends at a column."""
    place = form.end[1]
    way = _numbers_at(form.basic, [row[place] for row in form.cells], 0, columns)
    if form.free[place] < columns:
        way[form.free[place]] = form.under
    return _shortened(way)


def eliminated(rows, many):
    """The pair (cells, found) of the rows, led by elimination as far as the first `many` columns allow.

    `found` are columns, one for each of the first rows behind it: there just this row is not 0. In all of them
    the one number that is not 0 is the same.
    """
    cells = [list(row) for row in rows]
    found = []
    last = 1
    for column in range(many):
        place = _row_with(cells, len(found), column)
        if place is None:
            continue
        top = len(found)
        cells[top], cells[place] = cells[place], cells[top]
        lead = cells[top]
        cells = [lead if at == top else _cleared(old, lead, column, last) for at, old in enumerate(cells)]
        last = lead[column]
        found.append(column)
    return (cells, found)


def _cleared(old, lead, column, last):
    # As ahead, cells are minors of the rows as they came: the division is whole.
    return [(cell * lead[column] - old[column] * other) // last for cell, other in zip(old, lead)]


def _row_with(cells, first, column):
    for place in range(first, len(cells)):
        if cells[place][column] != 0:
            return place
    return None
