"""Linear programs with integers, their papers, and the corners of what fits [stage 5]."""

from itertools import combinations
from math import comb

from crestjoin.base.checks import GREATEST, are_between, are_from_nought, are_integers, check_number, is_integer
from crestjoin.base.checks import is_pair, lowest_point, lowest_terms, sum_of_products
from crestjoin.errors import InvalidOperation, TooMany
from crestjoin.exact.pivots import eliminated, ended_form, point_of, prices_of, reason_of, way_of

MOST_COLUMNS = 12
MOST_ROWS = 24
MOST_CHOICES = 5000


def is_point(value):
    """Whether the value is a point: a pair of an integer from 1 on and of a tuple of integers."""
    return is_pair(value) and is_integer(value[0]) and value[0] >= 1 and are_integers(value[1])


def check_program(rows, sides, many):
    """Refuses all but at most 24 rows of so many columns with a side for each of them."""
    if not are_lines(rows, many) or not all([are_between(row, -GREATEST, GREATEST) for row in rows]):
        raise InvalidOperation("rows are a tuple of at most 24 tuples of an integer for each column")
    if not are_between(sides, -GREATEST, GREATEST) or len(sides) != len(rows):
        raise InvalidOperation("sides are a tuple of an integer for each row")


def are_lines(value, many):
    """Whether the value is rows of so many columns, of integers of any length."""
    if not isinstance(value, tuple) or len(value) > MOST_ROWS:
        return False
    return all([are_integers(row) and len(row) == many for row in value])


def check_costs(value):
    """Refuses all but the costs of at most 12 columns."""
    if not are_between(value, -GREATEST, GREATEST) or len(value) > MOST_COLUMNS:
        raise InvalidOperation("costs are a tuple of at most 12 integers")


def does_fit(rows, sides, many, value):
    """Whether the value is a point that fits rows of so many columns."""
    check_number(many, 0, MOST_COLUMNS)
    check_program(rows, sides, many)
    return fits(rows, sides, many, value)


def fits(rows, sides, many, value):
    """Whether the value is a point that fits rows of integers of any length."""
    if not is_point(value) or len(value[1]) != many or not are_from_nought(value[1]):
        return False
    under, numbers = value
    return all([sum_of_products(row, numbers) >= under * side for row, side in zip(rows, sides)])


def value_of(costs, point):
    """The costs of a point, as a pair (top, bottom) in lowest terms."""
    check_costs(costs)
    if not is_point(point) or len(point[1]) != len(costs):
        raise InvalidOperation("the point has as many integers as there are costs")
    return lowest_terms(sum_of_products(costs, point[1]), point[0])


def linear_answer(rows, sides, costs):
    """What can be told of the program: ("least", x, y), ("none", y) or ("endless", x, way)."""
    check_costs(costs)
    check_program(rows, sides, len(costs))
    return program_answer(rows, sides, costs)


def program_answer(rows, sides, costs):
    """What can be told of a program with integers of any length."""
    form = ended_form(rows, sides, costs)
    if form.end[0] == "endless":
        way = way_of(form, len(costs))
        # The costs would fall along the way from each fitting point, but there may be none.
        form = ended_form(rows, sides, [0] * len(costs))
        if form.end[0] == "least":
            return ("endless", point_of(form, len(costs)), way)
    if form.end[0] == "none":
        return ("none", reason_of(form, len(rows), len(costs)))
    return ("least", point_of(form, len(costs)), prices_of(form, len(rows), len(costs)))


def is_linear(rows, sides, costs, value):
    """Whether the value is what can be told of the program, by its own sums."""
    check_costs(costs)
    check_program(rows, sides, len(costs))
    if not isinstance(value, tuple):
        return False
    if len(value) == 2 and value[0] == "none":
        return is_reason(rows, sides, len(costs), value[1])
    if len(value) != 3 or not fits(rows, sides, len(costs), value[1]):
        return False
    if value[0] == "endless":
        return _is_way(rows, costs, value[2])
    return value[0] == "least" and _do_meet(rows, sides, costs, value[1], value[2])


def _columns_of(rows, many):
    return [[row[column] for row in rows] for column in range(many)]


def is_reason(rows, sides, many, value):
    """Whether the value shows, by its sums alone, that no point fits."""
    if not are_from_nought(value) or len(value) != len(rows) or sum_of_products(sides, value) <= 0:
        return False
    return all([sum_of_products(column, value) <= 0 for column in _columns_of(rows, many)])


def _is_way(rows, costs, value):
    if not are_from_nought(value) or len(value) != len(costs) or sum_of_products(costs, value) >= 0:
        return False
    return all([sum_of_products(row, value) >= 0 for row in rows])


def are_prices(rows, costs, value):
    """Whether the value is a point with a price for each row that makes no column more than its cost."""
    if not is_point(value) or len(value[1]) != len(rows) or not are_from_nought(value[1]):
        return False
    under, prices = value
    columns = _columns_of(rows, len(costs))
    return all([sum_of_products(column, prices) <= under * cost for column, cost in zip(columns, costs)])


def _do_meet(rows, sides, costs, point, value):
    if not are_prices(rows, costs, value):
        return False
    return sum_of_products(costs, point[1]) * value[0] == sum_of_products(sides, value[1]) * point[0]


def corners(rows, sides, many):
    """The ascending tuple of all corners, in least terms."""
    check_number(many, 0, MOST_COLUMNS)
    check_program(rows, sides, many)
    if comb(len(rows) + many, many) > MOST_CHOICES:
        raise TooMany(MOST_CHOICES)
    found = {}
    for chosen in combinations(range(many + len(rows)), many):
        point = _point_where(rows, sides, many, chosen)
        if point is not None and fits(rows, sides, many, point):
            found[point] = True
    return tuple(sorted(found))


def _point_where(rows, sides, many, chosen):
    # The only point at which the chosen columns are 0, and the chosen rows, told behind them, hold with equality.
    left = [column for column in range(many) if column not in chosen]
    tight = [place - many for place in chosen if place >= many]
    cells, found = eliminated([[rows[row][column] for column in left] + [sides[row]] for row in tight], len(left))
    if len(found) < len(left):
        return None
    numbers = [0] * many
    for column, row in zip(left, cells):
        numbers[column] = row[-1]
    under = cells[0][found[0]] if left else 1
    sign = 1 if under > 0 else -1
    return lowest_point(sign * under, [sign * number for number in numbers])


def is_corner(rows, sides, many, value):
    """Whether the value is a corner, in any terms."""
    check_number(many, 0, MOST_COLUMNS)
    check_program(rows, sides, many)
    if not fits(rows, sides, many, value):
        return False
    under, numbers = value
    left = [column for column in range(many) if numbers[column] > 0]
    tight = [row for row, side in zip(rows, sides) if sum_of_products(row, numbers) == under * side]
    return len(eliminated([[row[column] for column in left] for row in tight], len(left))[1]) == len(left)
