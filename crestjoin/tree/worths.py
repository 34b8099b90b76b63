"""Worths of rows, and totals of worths: of three kinds [17.1]."""

from crestjoin.base.checks import GREATEST, is_between
from crestjoin.errors import InvalidOperation

SUM = "sum"
LEAST = "least"
TRUTH = "truth"


def check_kind(value):
    """Refuses all but ("sum", m), ("least",) and ("truth",)."""
    if not _is_kind(value):
        raise InvalidOperation('a kind is ("sum", m), m being 0 or an integer from 2 on, ("least",) or ("truth",)')


def _is_kind(value):
    if isinstance(value, tuple) and len(value) == 2:
        return value[0] == SUM and is_between(value[1], 0, GREATEST) and value[1] != 1
    return value in ((LEAST,), (TRUTH,))


def worth_of(kind, weight):
    """What a weight alone is worth."""
    if kind[0] == SUM:
        return _modulo(kind, weight)
    return weight if kind[0] == LEAST else weight != 0


def _modulo(kind, number):
    return number % kind[1] if kind[1] > 0 else number


def together(kind, worths):
    """The worth of what has all these worths at once."""
    if kind[0] == LEAST:
        return sum(worths)
    if kind[0] == TRUTH:
        return all(worths)
    product = 1
    for worth in worths:
        product = _modulo(kind, product * worth)
    return product


def total_of_two(kind, one, other):
    """The total of what two have."""
    if kind[0] == LEAST:
        return min(one, other)
    return one or other if kind[0] == TRUTH else _modulo(kind, one + other)


def total_of_none(kind):
    """The total of no rows."""
    if kind[0] == LEAST:
        return None
    return False if kind[0] == TRUTH else 0


def totals_at(kind, pairs):
    """The dict, ascending, from all parts of pairs (part, worth) to the totals of their worths."""
    totals = {}
    for part, worth in pairs:
        totals[part] = total_of_two(kind, totals[part], worth) if part in totals else worth
    return {part: totals[part] for part in sorted(totals)}
