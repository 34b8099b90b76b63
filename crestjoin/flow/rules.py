"""Rules: questions that are asked for several goals at once [stage 13]."""

from crestjoin.base.checks import is_pair, lowest_terms
from crestjoin.errors import InvalidOperation
from crestjoin.flow.counted import do_ascend, is_lot_within
from crestjoin.flow.flows import check_counts
from crestjoin.flow.least import either_answer, is_either_answer, is_least_answer, least_answer
from crestjoin.flow.logs import followed, led_log
from crestjoin.flow.plans import plan_of
from crestjoin.rank.degrees import check_goal_lot, check_p_and_d, check_told
from crestjoin.table.joins import answer, check_question
from crestjoin.table.tables import Table, above, parts_at, project, table_of

MOST_GOALS = 12


def _check_goals(lot, value):
    if not isinstance(value, tuple) or not 1 <= len(value) <= MOST_GOALS:
        raise InvalidOperation("goals are a tuple of 1 to 12 lots")
    if not all([is_lot_within(lot, goal) and goal != () for goal in value]) or not do_ascend(value):
        raise InvalidOperation("goals are lots within the lot other than (), ascending")


def _check_rule(lot, goals, told):
    check_goal_lot(lot)
    _check_goals(lot, goals)
    check_told(lot, told)


def rule_answer(lot, goals, told, p, D):
    """("paper", flow) with a bound of at most (p, D) for the goals, or ("rank", s, rank) with a rank above it."""
    _check_rule(lot, goals, told)
    check_p_and_d(p, D)
    return either_answer(lot, goals, told, p, D)


def is_rule_answer(lot, goals, told, p, D, value):
    """Whether the value is what `rule_answer` tells, whoever made it."""
    _check_rule(lot, goals, told)
    check_p_and_d(p, D)
    return is_either_answer(lot, goals, told, (p, D), value)


def rule_bound(lot, goals, told):
    """("least", bound, flow, s, rank) with the least bound for the goals, or ("endless", rank)."""
    _check_rule(lot, goals, told)
    return least_answer(lot, goals, told)


def is_rule_bound(lot, goals, told, value):
    """Whether the value is what `rule_bound` tells, whoever made it."""
    _check_rule(lot, goals, told)
    return is_least_answer(lot, goals, told, value)


def rule_run(question, told, flow):
    """Any pair of a log of the run that is led from the flow, and of the tables to which it leads at the goals."""
    plan = plan_of(question, told, flow)
    check_counts(flow)
    log = led_log(plan)
    return (log, _goal_tables(plan, followed(plan, log)))


def _goal_tables(plan, course):
    rows = {goal: [] for goal, _ in plan.flow[0]}
    for goal, table in course.ends:
        rows[goal].extend(table.rows)
    return {goal: table_of(goal, rows[goal]) for goal in sorted(rows)}


def is_rule_run(question, told, flow, value):
    """Whether the value is a log of the run with the tables that it leads to."""
    plan = plan_of(question, told, flow)
    if not is_pair(value) or not are_tables(question.lot, value[1]):
        return False
    course = followed(plan, value[0])
    return course is not None and value[1] == _goal_tables(plan, course)


def are_tables(lot, value):
    """Whether the value is a dict from lots within the lot to tables on them."""
    if not isinstance(value, dict) or not all([is_lot_within(lot, some) for some in value]):
        return False
    return all([isinstance(table, Table) and table.lot == some for some, table in value.items()])


def _check_tables(question, value):
    check_question(question)
    if not are_tables(question.lot, value) or value == {}:
        raise InvalidOperation("tables are a dict from at least one lot within the question's to tables on them")


def does_hold(question, tables):
    """Whether each row of the answer has, for at least one of the lots, its part in the table there."""
    _check_tables(question, tables)
    return do_tables_hold(answer(question), tables)


def do_tables_hold(found, tables):
    """Whether each row of a table has, for at least one of the lots, its part in the table there."""
    held = [False] * len(found)
    for some, table in tables.items():
        for place, part in enumerate(parts_at(found.rows, found.lot, some)):
            held[place] = held[place] or part in table
    return all(held)


def are_even(question, goals):
    """Whether on each goal the rows that are parts of rows of the answer come equally often."""
    check_question(question)
    _check_goals(question.lot, goals)
    found = answer(question)
    for goal in goals:
        counts = list(above(found, goal, found.lot).values())
        if counts != [] and min(counts) != max(counts):
            return False
    return True


def share(question, tables):
    """The sum of how many rows each table has, divided by how many the answer has on its lot, in least terms."""
    _check_tables(question, tables)
    found = answer(question)
    top, bottom = 0, 1
    for some, table in tables.items():
        many = len(project(found, some))
        if many > 0:
            top, bottom = top * many + len(table) * bottom, bottom * many
    return lowest_terms(top, bottom)
