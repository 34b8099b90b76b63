"""Claims, and a checker that takes their papers: it counts, adds, multiplies and compares [stage 21]."""

from crestjoin.base.checks import are_between, are_integers, is_between, is_pair, sum_of_products
from crestjoin.base.lots import are_lots, is_lot, lots_on
from crestjoin.base.numbers import MOST_D, MOST_P, is_below, is_bound
from crestjoin.cover.covers import MOST_EXPONENT, MOST_LOTS, is_cover, is_packing
from crestjoin.errors import InvalidClaim
from crestjoin.exact.linear import MOST_COLUMNS, are_lines, are_prices, fits, is_reason
from crestjoin.flow.counted import do_ascend
from crestjoin.flow.least import is_paper, is_rank_above
from crestjoin.rank.degrees import is_told, keeps
from crestjoin.rank.papers import does_fail, does_make, is_total
from crestjoin.rank.ranks import MOST_LETTERS
from crestjoin.table.joins import MOST_PARTS, Question
from crestjoin.table.tables import MOST_ROWS, parts_at, table_of
from crestjoin.tree.webs import is_stuck, is_tree
from crestjoin.within.maps import does_show, is_map, is_rule

OPPOSITES = {
    "below": "above", "above": "below", "holds": "fails", "fails": "holds", "cover": "packing", "packing": "cover",
    "at most": "more", "more": "at most", "folds": "stuck", "stuck": "folds", "within": "beyond", "beyond": "within",
    "few": "many", "many": "few",
}


def _is_goal_lot(value):
    return is_lot(value) and 1 <= len(value) <= MOST_LETTERS


def _is_web(value):
    return are_lots(value) and len(value) <= MOST_LOTS


def _is_bound_claim(value):
    if len(value) != 5:
        return False
    _, lot, told, p, D = value
    return _is_goal_lot(lot) and is_told(lot, told) and is_bound((p, D))


def _is_sum_claim(value):
    return len(value) == 3 and _is_goal_lot(value[1]) and is_total(value[1], value[2])


def _is_cover_claim(value):
    if len(value) != 5:
        return False
    _, lots, exponents, p, D = value
    if not _is_web(lots) or not are_between(exponents, 0, MOST_EXPONENT) or len(exponents) != len(lots):
        return False
    return is_bound((p, D))


def _is_program_claim(value):
    if len(value) != 6:
        return False
    _, rows, sides, costs, p, D = value
    if not are_integers(costs) or len(costs) > MOST_COLUMNS or not are_lines(rows, len(costs)):
        return False
    if not are_integers(sides) or len(sides) != len(rows):
        return False
    return is_between(p, -MOST_P, MOST_P) and is_between(D, 1, MOST_D)


def _is_web_claim(value):
    return len(value) == 2 and _is_web(value[1])


def _is_rule_claim(value):
    return len(value) == 3 and is_rule(value[1]) and is_rule(value[2]) and value[1][0] == value[2][0]


def _is_answer_claim(value):
    if len(value) != 5:
        return False
    _, lot, parts, p, D = value
    if not _is_goal_lot(lot) or not isinstance(parts, tuple) or len(parts) > MOST_PARTS or not is_bound((p, D)):
        return False
    if not all([is_pair(part) and is_lot(part[0]) and _are_part_rows(part[0], part[1]) for part in parts]):
        return False
    return lots_on(tuple([some for some, _ in parts])) == lot


def _are_part_rows(lot, value):
    if not isinstance(value, tuple) or len(value) > MOST_ROWS:
        return False
    return all([_is_long_row(lot, row) for row in value]) and do_ascend(value)


def _is_long_row(lot, value):
    # Whether the value is a row on the lot, with numbers of any length.
    return are_integers(value) and len(value) == len(lot)


FORMS = {
    "below": _is_bound_claim, "above": _is_bound_claim, "holds": _is_sum_claim, "fails": _is_sum_claim,
    "cover": _is_cover_claim, "packing": _is_cover_claim, "at most": _is_program_claim, "more": _is_program_claim,
    "folds": _is_web_claim, "stuck": _is_web_claim, "within": _is_rule_claim, "beyond": _is_rule_claim,
    "few": _is_answer_claim, "many": _is_answer_claim,
}


def is_claim(value):
    """Whether the value is a claim."""
    if not isinstance(value, tuple) or value == () or not isinstance(value[0], str) or value[0] not in FORMS:
        return False
    form = FORMS[value[0]]
    return form(value)


def check_claim(value):
    """Refuses all but claims."""
    if not is_claim(value):
        raise InvalidClaim("a claim is a tuple of its name and of what it is about")


def opposite(claim):
    """The opposite claim."""
    check_claim(claim)
    return named_claim(OPPOSITES[claim[0]], claim)


def named_claim(name, claim):
    """The claim with this name about the same, which shares nothing with it that can change."""
    if name in ("holds", "fails"):
        return (name, claim[1], {some: claim[2][some] for some in sorted(claim[2])})
    return (name,) + claim[1:]


def _shows_below(claim, value):
    _, lot, told, p, D = claim
    return is_paper(lot, (lot,), told, (p, D), value)


def _shows_above(claim, value):
    _, lot, told, p, D = claim
    return is_pair(value) and is_rank_above(lot, (lot,), told, (p, D), value)


def _shows_holding(claim, value):
    return does_make(claim[1], claim[2], value)


def _shows_failing(claim, value):
    return does_fail(claim[1], claim[2], value)


def _shows_cover(claim, value):
    _, lots, exponents, p, D = claim
    return is_cover(lots, value) and sum_of_products(exponents, value[1]) * D <= p * value[0]


def _shows_packing(claim, value):
    _, lots, exponents, p, D = claim
    return is_packing(lots, exponents, value) and sum(value[1].values()) * D > p * value[0]


def _shows_at_most(claim, value):
    _, rows, sides, costs, p, D = claim
    return fits(rows, sides, len(costs), value) and sum_of_products(costs, value[1]) * D <= p * value[0]


def _shows_more(claim, value):
    _, rows, sides, costs, p, D = claim
    if not is_pair(value):
        return False
    kind, y = value
    if kind == "none":
        return is_reason(rows, sides, len(costs), y)
    return kind == "prices" and are_prices(rows, costs, y) and sum_of_products(sides, y[1]) * D > p * y[0]


def _shows_folding(claim, value):
    return is_tree(claim[1], value)


def _shows_stuck(claim, value):
    return is_stuck(claim[1], value)


def _shows_within(claim, value):
    return is_map(claim[1], claim[2], value)


def _shows_beyond(claim, value):
    return does_show(claim[1], claim[2], value)


def question_of(claim):
    """The question of a claim that tells how many rows come, whose numbers can have any length."""
    return Question(claim[1], tuple([table_of(some, rows) for some, rows in claim[2]]))


def _shows_few(claim, value):
    _, lot, _, p, D = claim
    if not is_pair(value) or not is_told(lot, value[0]) or not all(keeps(question_of(claim), value[0])):
        return False
    return is_paper(lot, (lot,), value[0], (p, D), value[1])


def _shows_many(claim, value):
    _, lot, parts, p, D = claim
    if not isinstance(value, tuple) or not all([_is_long_row(lot, row) for row in value]):
        return False
    if len(set(value)) != len(value) or is_below(len(value), (p, D)):
        return False
    return all([_are_parts(parts_at(list(value), lot, some), rows) for some, rows in parts])


def _are_parts(found, rows):
    known = {row: True for row in rows}
    return all([row in known for row in found])


PAPERS = {
    "below": _shows_below, "above": _shows_above, "holds": _shows_holding, "fails": _shows_failing,
    "cover": _shows_cover, "packing": _shows_packing, "at most": _shows_at_most, "more": _shows_more,
    "folds": _shows_folding, "stuck": _shows_stuck, "within": _shows_within, "beyond": _shows_beyond,
    "few": _shows_few, "many": _shows_many,
}


def takes(claim, value):
    """Whether the value is a paper for the claim."""
    check_claim(claim)
    paper = PAPERS[claim[0]]
    return paper(claim, value)
