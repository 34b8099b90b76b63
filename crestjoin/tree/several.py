"""Several trees of bags at once: each row of an answer goes along one of them [18.5]."""

from crestjoin.base.lots import is_within
from crestjoin.errors import InvalidFlow, InvalidOperation, TooMany
from crestjoin.flow.flows import check_counts, is_passed_flow
from crestjoin.flow.plans import check_terms, plan_of
from crestjoin.flow.rules import are_tables, do_tables_hold, rule_run
from crestjoin.rank.degrees import check_told
from crestjoin.table.joins import Question, answer, check_question, semi
from crestjoin.table.tables import table_of
from crestjoin.tree.bags import is_bags
from crestjoin.tree.webs import check_web, reduced

MOST_TREES = 4
MOST_CHOICES = 64


def choices(lots, many):
    """The ascending tuple of all choices: of the unlike bags that one takes by taking one bag of each tree."""
    check_web(lots)
    if not isinstance(many, tuple) or not 1 <= len(many) <= MOST_TREES or not all([is_bags(lots, one) for one in many]):
        raise InvalidOperation("several trees are a tuple of one to four trees of bags")
    found = {(): True}
    for bags, _ in many:
        found = {tuple(sorted(set([*taken, bag]))): True for taken in found for bag in bags}
    if len(found) > MOST_CHOICES:
        raise TooMany(MOST_CHOICES)
    return tuple(sorted(found))


def several_tables(question, told, many, flows):
    """Any tuple with for each choice a dict from its bags to tables that a run of its flow makes."""
    check_question(question)
    check_told(question.lot, told)
    wanted = choices(question.lots, many)
    _check_flows(question.lot, wanted, flows)
    for flow in flows:
        check_terms(told, flow)
    for flow in flows:
        plan_of(question, told, flow)
    for flow in flows:
        check_counts(flow)
    found = []
    for choice, flow in zip(wanted, flows):
        tables = rule_run(question, told, flow)[1]
        found.append({bag: tables.get(bag, table_of(bag, ())) for bag in choice})
    return tuple(found)


def _check_flows(lot, wanted, value):
    if not isinstance(value, tuple) or len(value) != len(wanted):
        raise InvalidFlow("flows are a tuple with a flow for each choice")
    for choice, flow in zip(wanted, value):
        if not is_passed_flow(lot, flow) or flow[0] == () or not all([goal in choice for goal, _ in flow[0]]):
            raise InvalidFlow("the flow for a choice has goals, all among its bags")


def are_several(question, many, value):
    """Whether the value is, for each choice, tables on its bags of which one has its part of each row of the answer."""
    check_question(question)
    wanted = choices(question.lots, many)
    found = answer(question)
    if not isinstance(value, tuple) or len(value) != len(wanted):
        return False
    return all([_does_hold(found, choice, tables) for choice, tables in zip(wanted, value)])


def _does_hold(found, choice, tables):
    if not are_tables(found.lot, tables) or tuple(sorted(tables)) != choice:
        return False
    return do_tables_hold(found, tables)


def several_truth(question, many, told_tables):
    """Whether the answer has rows, looked up tree by tree in such tables and in the parts within each bag."""
    if not are_several(question, many, told_tables):
        raise InvalidOperation("the tables are, for each choice, tables on its bags that hold the answer")
    return any([_has_rows(question, bags, tree, told_tables) for bags, tree in many])


def _has_rows(question, bags, tree, told_tables):
    tables = tuple([_table_at(question, bag, told_tables) for bag in bags])
    return all([len(table) > 0 for table in reduced(Question(question.lot, tables), tree)])


def _table_at(question, bag, told_tables):
    # The rows of all choices' tables on the bag that have a part in each part within it.
    rows = [row for tables in told_tables if bag in tables for row in tables[bag].rows]
    table = table_of(bag, rows)
    for part in question.parts:
        if is_within(part.lot, bag):
            table = semi(table, part)
    return table
