"""Rules: atoms with a head, within one another by maps of their letters [stage 19]."""

from itertools import permutations

from crestjoin.base.checks import are_between, is_name, is_pair
from crestjoin.base.lots import LAST_LETTER, is_letter, is_lot
from crestjoin.errors import InvalidOperation, InvalidQuestion, InvalidTable
from crestjoin.table.joins import Question, answer
from crestjoin.table.tables import project, table_of

MOST_ATOMS = 8
MOST_PLACES = 4
MOST_STORED = 24


def is_rule(value):
    """Whether the value is a rule."""
    if not is_pair(value) or not is_lot(value[0]) or not isinstance(value[1], tuple) or len(value[1]) > MOST_ATOMS:
        return False
    head, atoms = value
    if not all([is_pair(atom) and is_name(atom[0]) and _are_places(atom[1]) for atom in atoms]):
        return False
    letters = _letters_of(atoms)
    return all([letter in letters for letter in head])


def _are_places(value):
    # Whether the value is a tuple of few letters, or of few numbers of a store: both are the same integers.
    return are_between(value, 0, LAST_LETTER) and len(value) <= MOST_PLACES


def _letters_of(atoms):
    return tuple(sorted(set([letter for _, letters in atoms for letter in letters])))


def is_store(value):
    """Whether the value is a store."""
    if not isinstance(value, dict) or not all([is_name(name) for name in value]):
        return False
    if not all([isinstance(rows, tuple) and all([_are_places(row) for row in rows]) for rows in value.values()]):
        return False
    if not all([len(set(rows)) == len(rows) for rows in value.values()]):
        return False
    return sum([len(rows) for rows in value.values()]) <= MOST_STORED


def _check_rule(value):
    if not is_rule(value):
        raise InvalidQuestion("a rule is a pair of a head and of at most 8 atoms that have its letters")


def own_store(rule):
    """The store that has the letters of each atom as a row under its name."""
    _check_rule(rule)
    return _own_store(rule[1])


def _own_store(atoms):
    names = sorted(set([name for name, _ in atoms]))
    return {name: tuple(sorted(set([letters for other, letters in atoms if other == name]))) for name in names}


def rule_answer(rule, store):
    """The ascending tuple of the rows on the head that are parts of numbers that meet the rule."""
    _check_rule(rule)
    if not is_store(store):
        raise InvalidTable("a store is a dict from names to tuples of at most 24 rows in all")
    return _rule_answer(rule, store)


def _rule_answer(rule, store):
    head, atoms = rule
    tables = tuple([_atom_table(letters, store.get(name, ())) for name, letters in atoms])
    return project(answer(Question(_letters_of(atoms), tables)), head).rows


def _atom_table(letters, rows):
    # The numbers that make a row of the letters of an atom: each row that has one number at each letter.
    lot = tuple(sorted(set(letters)))
    found = []
    for row in rows:
        if len(row) == len(letters):
            numbers = dict(zip(letters, row))
            if _led(letters, numbers) == row:
                found.append(_led(lot, numbers))
    return table_of(lot, found)


def _check_one_head(one, other):
    _check_rule(one)
    _check_rule(other)
    if one[0] != other[0]:
        raise InvalidOperation("both rules have one head")


def within_answer(one, other):
    """("map", map) if the one is within the other one, or ("tables", store) with a store that shows that it is not."""
    _check_one_head(one, other)
    found = _found_map(one, other)
    if found is None:
        return ("tables", _own_store(one[1]))
    return ("map", found)


def _found_map(one, other):
    # Numbers that meet the other rule on the own store of the one, with the head as it is, are a map.
    head, atoms = other
    store = _own_store(one[1])
    tables = [_atom_table(letters, store.get(name, ())) for name, letters in atoms]
    letters = _letters_of(atoms)
    rows = answer(Question(letters, (*tables, table_of(head, [head])))).rows
    return dict(zip(letters, rows[0])) if rows != () else None


def is_map(one, other, value):
    """Whether the value is a map from the letters of the other rule to those of the one."""
    head, atoms = other
    if not isinstance(value, dict) or not all([is_letter(key) and is_letter(to) for key, to in value.items()]):
        return False
    if tuple(sorted(value)) != _letters_of(atoms) or _led(head, value) != head:
        return False
    return all([(name, _led(letters, value)) in one[1] for name, letters in atoms])


def _led(letters, names):
    return tuple([names[letter] for letter in letters])


def does_show(one, other, value):
    """Whether the value is a store on which some row of the one's answer is none of the other one's."""
    if not is_store(value):
        return False
    rows = _rule_answer(other, value)
    return any([row not in rows for row in _rule_answer(one, value)])


def is_within_answer(one, other, value):
    """Whether the value is what `within_answer` tells, whoever made it."""
    _check_one_head(one, other)
    if not is_pair(value):
        return False
    if value[0] == "map":
        return is_map(one, other, value[1])
    return value[0] == "tables" and does_show(one, other, value[1])


def least_rule(rule):
    """Any least rule alike to the rule, with its head and some of its atoms."""
    _check_rule(rule)
    head, left = rule
    place = 0
    while place < len(left):
        # An atom without which the rule is not alike to fewer atoms can't be left out of fewer atoms either.
        fewer = left[:place] + left[place + 1:]
        if _found_map((head, fewer), rule) is None:
            place = place + 1
        else:
            left = fewer
    return (head, left)


def is_least(rule, value):
    """Whether the value is what `least_rule` tells, whoever made it."""
    _check_rule(rule)
    if not is_rule(value) or value[0] != rule[0] or not _are_some(value[1], rule[1]):
        return False
    return _found_map(value, rule) is not None and least_rule(value) == value


def _are_some(some, atoms):
    # Whether they are some of the atoms, in their sequence.
    at = 0
    for atom in atoms:
        if at < len(some) and some[at] == atom:
            at = at + 1
    return at == len(some)


def are_alike(one, other):
    """Whether the rules are within one another."""
    _check_one_head(one, other)
    return _found_map(one, other) is not None and _found_map(other, one) is not None


def are_same(one, other):
    """Whether the rules are the same but for letters."""
    _check_one_head(one, other)
    head = one[0]
    letters, wanted = _letters_of(other[1]), sorted(set(one[1]))
    own = list(_letters_of(one[1]))
    if len(letters) != len(own):
        return False
    for order in permutations(own):
        names = dict(zip(letters, order))
        if _led(head, names) == head and sorted(set([(name, _led(row, names)) for name, row in other[1]])) == wanted:
            return True
    return False
