"""Claims answered: each one, or its opposite, with a paper [21.3]."""

from crestjoin.base.checks import sum_of_products
from crestjoin.base.numbers import is_below
from crestjoin.cover.covers import cover_or_packing
from crestjoin.errors import Refused
from crestjoin.exact.linear import program_answer
from crestjoin.flow.least import either_answer
from crestjoin.judge.judge import check_claim, named_claim, question_of
from crestjoin.rank.degrees import exact_told
from crestjoin.rank.papers import total_answer
from crestjoin.table.joins import answer
from crestjoin.tree.webs import fold_answer
from crestjoin.within.maps import within_answer


def _bound_paper(claim):
    _, lot, told, p, D = claim
    found = either_answer(lot, (lot,), told, p, D)
    return ("below", found[1]) if found[0] == "paper" else ("above", found[1:])


def _sum_paper(claim):
    return total_answer(claim[1], claim[2])


def _cover_paper(claim):
    return cover_or_packing(claim[1], claim[2], claim[3], claim[4])


def _program_paper(claim):
    _, rows, sides, costs, p, D = claim
    found = program_answer(rows, sides, costs)
    if found[0] == "none":
        return ("more", found)
    point = found[1]
    if found[0] == "endless":
        point = _far_point(point, found[2], costs, (p, D))
    if sum_of_products(costs, point[1]) * D <= p * point[0]:
        return ("at most", point)
    return ("more", ("prices", found[2]))


def _far_point(point, way, costs, bound):
    # As far along the way as the costs take to fall to the bound: a division that is rounded up, but not below 0.
    under, numbers = point
    p, D = bound
    over = sum_of_products(costs, numbers) * D - p * under
    falls = -sum_of_products(costs, way) * D
    times = max(0, -(-over // falls))
    return (under, tuple([number + times * step for number, step in zip(numbers, way)]))


def _web_paper(claim):
    return fold_answer(claim[1])


def _rule_paper(claim):
    name, paper = within_answer(claim[1], claim[2])
    return ("within" if name == "map" else "beyond", paper)


def _answer_paper(claim):
    _, lot, parts, p, D = claim
    question = question_of(claim)
    told = exact_told(question, tuple([((), some) for some, _ in parts if some != ()]))
    found = either_answer(lot, (lot,), told, p, D)
    if found[0] == "paper":
        return ("few", (told, found[1]))
    rows = answer(question).rows
    if is_below(len(rows), (p, D)):
        raise Refused(("open",))
    return ("many", rows)


ANSWERS = {
    "below": _bound_paper, "above": _bound_paper, "holds": _sum_paper, "fails": _sum_paper,
    "cover": _cover_paper, "packing": _cover_paper, "at most": _program_paper, "more": _program_paper,
    "folds": _web_paper, "stuck": _web_paper, "within": _rule_paper, "beyond": _rule_paper,
    "few": _answer_paper, "many": _answer_paper,
}


def answered(claim):
    """Any pair of the claim or its opposite, the one that is true, and of a paper that is taken for it."""
    check_claim(claim)
    told = ANSWERS[claim[0]]
    name, paper = told(claim)
    return (named_claim(name, claim), paper)
