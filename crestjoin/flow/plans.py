"""Papers are plans: runs that are led from flows, and what their logs come to [stage 12]."""

from crestjoin.errors import InvalidOperation, Refused
from crestjoin.flow.flows import check_counts, check_flow
from crestjoin.flow.guards import Plan
from crestjoin.flow.least import cost_of
from crestjoin.flow.logs import followed, led_log
from crestjoin.rank.degrees import check_told, keeps
from crestjoin.table.joins import check_question, is_answer_row
from crestjoin.table.tables import table_of


def plan_of(question, told, flow):
    """The plan that is led from the flow, whatever goals it has."""
    check_question(question)
    check_told(question.lot, told)
    check_flow(question.lot, flow)
    check_terms(told, flow)
    kept = keeps(question, told)
    if False in kept:
        raise Refused(("degree", kept.index(False)))
    return Plan(question, told, flow)


def check_terms(told, flow):
    """Refuses flows without a goal, or with a term of a pair that is not told."""
    if flow[0] == () or cost_of(told, flow[1]) is None:
        raise InvalidOperation("the flow has a goal, and all of its terms are of told pairs")


def _whole_plan(question, told, flow):
    check_question(question)
    check_told(question.lot, told)
    check_flow(question.lot, flow)
    if [some for some, _ in flow[0]] != [question.lot]:
        raise InvalidOperation("the one goal of the flow is the whole lot")
    return plan_of(question, told, flow)


def plan_bound(question, told, flow):
    """The bound (p, D) of the flow, as it comes."""
    plan = _whole_plan(question, told, flow)
    return (plan.p, plan.D)


def run(question, told, flow):
    """Any log of the run that is led from the flow."""
    plan = _whole_plan(question, told, flow)
    check_counts(flow)
    return led_log(plan)


def is_log(question, told, flow, value):
    """Whether the value is a log."""
    return followed(_whole_plan(question, told, flow), value) is not None


def _course(question, told, flow, log):
    course = followed(_whole_plan(question, told, flow), log)
    if course is None:
        raise InvalidOperation("the log is a log of the flow")
    return course


def log_answer(question, told, flow, log):
    """The answer that a log comes to: the rows at its ends that have a part in each part of the question."""
    rows = {row: True for _, table in _course(question, told, flow, log).ends for row in table.rows}
    return table_of(question.lot, [row for row in rows if is_answer_row(question, row)])


def log_sizes(question, told, flow, log):
    """The tuple of how many rows all tables have that are made, entry by entry."""
    return tuple(_course(question, told, flow, log).made)


def log_counts(question, told, flow, log):
    """The pair of how many ends are at a goal, and how many terms are given up."""
    course = _course(question, told, flow, log)
    return (len(course.ends), course.given_up)
