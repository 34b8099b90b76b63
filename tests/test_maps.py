"""Rules within one another [19.1] to [19.5]: crestjoin.within.maps."""

import random
import unittest
from itertools import combinations, permutations, product

from crestjoin.errors import InvalidOperation, InvalidQuestion, InvalidTable
from crestjoin.within import maps
from crestjoin.within.maps import (
    are_alike, are_same, is_least, is_rule, is_store, is_within_answer, least_rule, own_store, rule_answer,
    within_answer,
)
from tests.support import BOOLS, HUGE, LONG_NUMBERS, OBJECTS, ODD, SOME_TABLE, check_judge, check_wrongs, refused, shown

ROAD = ((0,), (("e", (0, 1)), ("e", (1, 2))))
STEP, LOOP = ((0,), (("e", (0, 1)),)), ((0,), (("e", (0, 0)),))
EMPTY = ((), ())


def letters_of(rule):
    return sorted({letter for _, letters in rule[1] for letter in letters})


def answer_plainly(rule, store):
    """The answer by all numbers for all letters."""
    letters = letters_of(rule)
    found = set()
    for numbers in product(range(6), repeat=len(letters)):
        at = dict(zip(letters, numbers))
        if all(tuple(at[letter] for letter in some) in store.get(name, ()) for name, some in rule[1]):
            found.add(tuple(at[letter] for letter in rule[0]))
    return tuple(sorted(found))


def maps_plainly(one, other):
    """All maps, by all dicts from the letters of the other rule to those of the one."""
    letters = letters_of(other)
    found = []
    for numbers in product(letters_of(one), repeat=len(letters)):
        at = dict(zip(letters, numbers))
        if all(at[letter] == letter for letter in other[0]) and all(
                (name, tuple(at[letter] for letter in some)) in one[1] for name, some in other[1]):
            found.append(at)
    return found


def least_plainly(rule):
    """All least rules alike to it with its head and some of its atoms, by leaving atoms out."""
    head, atoms = rule
    for many in range(len(atoms) + 1):
        found = []
        for some in combinations(atoms, many):
            fewer = (head, some)
            if set(head) <= set(letters_of(fewer)) and maps_plainly(fewer, rule):
                found.append(fewer)
        if found:
            return found
    return []


def same_plainly(one, other):
    left, right = letters_of(other), letters_of(one)
    for order in permutations(right) if len(left) == len(right) else ():
        at = dict(zip(left, order))
        if all(at[letter] == letter for letter in one[0]) and {
                (name, tuple(at[letter] for letter in some)) for name, some in other[1]} == set(one[1]):
            return True
    return False


def drawn_rule(chance, letters, most, head=None):
    while True:
        names = chance.choice((("e",), ("e", "f"), ("e", "f", "g")))
        atoms = tuple((chance.choice(names), tuple(chance.choice(letters) for _ in range(chance.choice((0, 1, 2, 2, 2, 3)))))
                      for _ in range(chance.randint(0, most)))
        free = letters_of(((), atoms))
        if head is None:
            return (tuple(sorted(chance.sample(free, min(len(free), chance.choice((0, 1, 2)))))), atoms)
        if set(head) <= set(free):
            return (head, atoms)


def drawn_pairs(seed, times, letters=(0, 1, 2), most=4):
    chance = random.Random(seed)
    for at in range(times):
        one = drawn_rule(chance, letters, most)
        other = drawn_rule(chance, letters, most, one[0])
        if at % 4 == 0:
            # Some atoms of the one, with other letters: often a map leads back.
            new = [letter if letter in one[0] else chance.choice((letter, 5 - letter)) for letter in range(6)]
            atoms = tuple((name, tuple(new[letter] for letter in some)) for name, some in one[1])
            other = (one[0], tuple(atom for atom in atoms if chance.random() < 0.8))
            if not set(one[0]) <= set(letters_of(other)):
                other = (one[0], atoms)
        yield one, other


def drawn_store(chance):
    store = {}
    for name in ("e", "f", "g")[:chance.randint(0, 3)]:
        rows = {tuple(chance.randint(0, chance.choice((1, 5))) for _ in range(chance.choice((0, 1, 2, 2, 2, 3))))
                for _ in range(chance.randint(0, 8))}
        store[name] = tuple(chance.sample(sorted(rows), len(rows)))
    return store


class RuleTest(unittest.TestCase):
    def test_is_rule_as_a_judge(self):
        right = [ROAD, STEP, LOOP, EMPTY, ((), (("e", ()),)), ((0, 5), (("abcdefgh", (5, 0, 5, 5)),) * 8),
                 ((), (("e", (1, 1)), ("e", (1, 1)))), ((3,), (("z", (3,)), ("a", ())))]
        wrong = [((0,), ()), ((1, 0), (("e", (0, 1)),)), ((2,), STEP[1]), ((), STEP[1] * 9), ((), (("", (0,)),)),
                 ((), (("abcdefghi", (0,)),)), ((), (("E", (0,)),)), ((), (("e1", (0,)),)), ((), (("e ", (0,)),)),
                 ((), (("e", (0, 1, 2, 3, 4)),)), ((), (("e", (6,)),)), ((), (("e", (-1,)),)), ((), (("e", (HUGE,)),)),
                 ((), (("e", 0),)), ((), (("e",),)), ((), (("e", (0,), 0),)), ((), ((0, (0,)),)), ((), ((None, ()),)),
                 ((), ("e", (0,))), ((),), ((), (), ()), ((), None), (None, ()), ((), {"e": (0,)}), ((), (None,)),
                 ((), (("e", ("0",)),)), ((6,), (("e", (6,)),)), ((0, 0), (("e", (0,)),)), ((), (((), ()),))]
        check_judge(self, is_rule, right, wrong)

    def test_is_store_as_a_judge(self):
        full = {"e": tuple((n, m) for n in range(6) for m in range(4))}
        right = [{}, {"e": ()}, {"e": ((),)}, full, {"e": ((5, 5, 5, 5), (0,)), "abcdefgh": ((0,), (5, 5, 5, 5))},
                 {"z": ((1, 0), (0, 1)), "a": ((1, 0),)}]
        wrong = [{"e": None}, {"e": ((0,), (0,))}, {"e": (0,)}, {"e": ((6,),)}, {"e": ((-1,),)}, {"e": ((HUGE,),)},
                 {"e": ((0, 0, 0, 0, 0),)}, {"": ()}, {"abcdefghi": ()}, {"E": ()}, {0: ()}, {None: ()}, {("e",): ()},
                 {"e": [(0,)]}, {"e": {(0,): 1}}, {**full, "f": ((),)}, (("e", ()),), ("e",), {"e": ((0,), None)},
                 {"e": full["e"][:12], "f": full["e"][:13]}, {"e": "ab"}, {"e": (("0",),)}]
        check_judge(self, is_store, right, [value for value in wrong])
        self.assertIs(is_store({"e": ((True,),)}), False)
        self.assertIs(is_store({"e": full["e"][:12], "f": full["e"][:12]}), True)

    def test_constants(self):
        self.assertEqual((maps.MOST_ATOMS, maps.MOST_PLACES, maps.MOST_STORED), (8, 4, 24))

    def test_answers_by_all_numbers(self):
        """[19.1]"""
        chance = random.Random(191)
        sizes = set()
        for at in range(250):
            rule = drawn_rule(chance, ((0, 1, 2), (2, 5), (0, 1, 3, 4))[at % 3], 5)
            store = drawn_store(chance)
            before = shown((rule, store))
            told = rule_answer(rule, store)
            self.assertEqual(told, answer_plainly(rule, store))
            self.assertEqual(shown((rule, store)), before)
            sizes.add(len(told))
        self.assertGreater(len(sizes), 4)

    def test_edges_of_answers(self):
        self.assertEqual(rule_answer(EMPTY, {}), ((),))
        self.assertEqual(rule_answer(EMPTY, {"e": ((0, 1),)}), ((),))
        self.assertEqual(rule_answer(ROAD, {}), ())
        self.assertEqual(rule_answer(ROAD, {"f": ((0, 1),)}), ())
        self.assertEqual(rule_answer(LOOP, {"e": ((0, 1), (3, 3), (2,), (1, 1, 1))}), ((3,),))
        self.assertEqual(rule_answer(((), STEP[1]), {"e": ((2, 3),)}), ((),))
        self.assertEqual(rule_answer(((), STEP[1]), {"e": ((3,),)}), ())
        self.assertEqual(rule_answer(((), (("e", ()),)), {"e": ((),)}), ((),))
        self.assertEqual(rule_answer(((), (("e", ()),)), {"e": ((1,),)}), ())
        self.assertEqual(rule_answer(((0,), (("e", (0, 1)), ("e", (0, 1)))), {"e": ((4, 5),)}), ((4,),))
        self.assertEqual(rule_answer(((0, 1), (("e", (1, 0)),)), {"e": ((4, 5),)}), ((5, 4),))

    def test_great_answers(self):
        """All numbers at six letters, and eight atoms with four letters each on stores of 24 rows."""
        every = {"p": tuple((n,) for n in range(6))}
        wide = ((0, 1, 2, 3, 4, 5), tuple(("p", (n,)) for n in range(6)))
        self.assertEqual(len(rule_answer(wide, every)), 6 ** 6)
        self.assertEqual(rule_answer(((), wide[1]), every), ((),))
        chance = random.Random(192)
        rows = {tuple(chance.randint(0, 1) for _ in range(4)) for _ in range(50)}
        store = {"q": tuple(sorted(rows))[:8], "r": tuple(sorted({row[::-1] for row in rows}))[:8]}
        rule = ((0, 3), tuple((chance.choice("qr"), tuple(chance.randint(0, 5) for _ in range(4))) for _ in range(8)))
        self.assertEqual(rule_answer(rule, store), answer_plainly(rule, store))

    def test_own_stores(self):
        """[19.2]: the head is a row of the answer on it."""
        chance = random.Random(193)
        for _ in range(120):
            rule = drawn_rule(chance, (0, 1, 2, 5), 6)
            store = own_store(rule)
            self.assertEqual(list(store), sorted({name for name, _ in rule[1]}))
            for name, rows in store.items():
                self.assertEqual(rows, tuple(sorted({some for other, some in rule[1] if other == name})))
            self.assertIs(is_store(store), True)
            self.assertIn(rule[0], rule_answer(rule, store))
        self.assertEqual(own_store(EMPTY), {})


class WithinTest(unittest.TestCase):
    def test_either_a_map_or_a_store(self):
        """[19.2], [0.14]: by all dicts of letters; never both, always one."""
        seen = {"map": 0, "tables": 0}
        for one, other in drawn_pairs(194, 400):
            before = shown((one, other))
            told = within_answer(one, other)
            self.assertEqual(shown((one, other)), before)
            seen[told[0]] += 1
            all_maps = maps_plainly(one, other)
            self.assertEqual(told[0] == "map", all_maps != [])
            self.assertIs(is_within_answer(one, other, told), True)
            if told[0] == "map":
                self.assertIn(told[1], all_maps)
                self.assertEqual(list(told[1]), letters_of(other))
            else:
                self.assertLess(set(answer_plainly(other, told[1])) & set(answer_plainly(one, told[1])),
                                set(answer_plainly(one, told[1])))
            for some in product(letters_of(one), repeat=len(letters_of(other))):
                some = dict(zip(letters_of(other), some))
                self.assertIs(is_within_answer(one, other, ("map", some)), some in all_maps)
        self.assertGreater(min(seen.values()), 60)

    def test_answers_on_drawn_stores(self):
        """[19.2]: the one's answers are within the other one's exactly on all stores that show nothing else."""
        chance = random.Random(195)
        shows = 0
        for one, other in drawn_pairs(196, 150):
            within = within_answer(one, other)[0] == "map"
            for _ in range(6):
                store = drawn_store(chance)
                inside = set(answer_plainly(one, store)) <= set(answer_plainly(other, store))
                if within:
                    self.assertTrue(inside)
                self.assertIs(is_within_answer(one, other, ("tables", store)), not inside)
                shows += not inside
        self.assertGreater(shows, 30)

    def test_whole_rules(self):
        """[19.4]"""
        chance = random.Random(197)
        seen = {True: 0, False: 0}
        pairs = [("e", (0, 1)), ("e", (1, 0)), ("f", (0, 1)), ("e", (0, 0)), ("g", (1,)), ("g", (0,))]
        while min(seen.values()) < 40:
            one, other = [((0, 1), tuple(chance.sample(pairs, chance.randint(1, 6)))) for _ in range(2)]
            if letters_of(one) == letters_of(other) == [0, 1]:
                within = set(other[1]) <= set(one[1])
                self.assertEqual(within_answer(one, other)[0] == "map", within)
                self.assertEqual(least_rule(one), one)
                self.assertIs(is_least(one, one), True)
                seen[within] += 1

    def test_edges(self):
        self.assertEqual(within_answer(EMPTY, EMPTY), ("map", {}))
        self.assertEqual(within_answer(((), STEP[1]), EMPTY), ("map", {}))
        self.assertEqual(within_answer(EMPTY, ((), STEP[1])), ("tables", {}))
        self.assertEqual(within_answer(((), (("e", ()),)), ((), (("f", ()),))), ("tables", {"e": ((),)}))
        self.assertIs(is_within_answer(EMPTY, ((), STEP[1]), ("tables", {"f": ((0,),)})), True)
        self.assertIs(is_within_answer(EMPTY, ((), STEP[1]), ("tables", {"e": ((0, 0),)})), False)
        self.assertEqual(within_answer(((), (("e", (0, 1, 2, 3)),) * 8), ((), (("e", (5, 4, 3, 2)),)))[0], "map")
        self.assertEqual(within_answer(((), (("e", (0, 1, 2, 3)),)), ((), (("e", (5, 4, 3, 5)),)))[0], "tables")

    def test_is_within_answer_as_a_judge(self):
        step = ((), STEP[1])
        road = ((), ROAD[1])
        right = [("map", {0: 0, 1: 1}), ("map", {1: 2, 0: 1})]
        wrong = [("map", {0: 0}), ("map", {0: 0, 1: 1, 2: 2}), ("map", {0: 1, 1: 0}), ("map", {0: 0, 1: 5}), ("map",),
                 ("map", {0: 0, 1: 1}, 0), ("tables", {"e": ((0, 1),)}), ("tables", {}), ("map", ((0, 0), (1, 1))),
                 ("map", {0: 0, 1: HUGE}), ("map", {0: 0, 1: "1"}), ("map", {0: 0, "1": 1}), ("map", None),
                 ("map", {0: 0, None: 1}), ("map", {0: 0, 1: (1,)}), ("maps", {0: 0, 1: 1}), (None, {0: 0, 1: 1}),
                 {0: 0, 1: 1}, ("map", [0, 1])]
        check_judge(self, lambda value: is_within_answer(road, step, value), right, wrong)
        right = [("tables", {"e": ((0, 1),)}), ("tables", {"e": ((3, 4), (4, 2), (3, 3))}),
                 ("tables", {"e": ((5, 0),), "f": ((), (1,))})]
        wrong = [("tables", {"e": ((0, 0),)}), ("tables", {}), ("tables", {"e": ()}), ("map", {0: 0}), ("tables",),
                 ("tables", {"f": ((0, 1),)}), ("tables", {"e": ((0, 1), (0, 1))}), ("tables", {"e": ((0, 6),)}),
                 ("tables", {"e": ((0, HUGE),)}), ("tables", None), ("table", {"e": ((0, 1),)}), ("map", {"e": ((0, 1),)}),
                 ("tables", {"e": [(0, 1)]}), ("tables", {"e": ((0, 1),), "E": ()}), ("tables", {"e": ((0, 1),)}, 0)]
        check_judge(self, lambda value: is_within_answer(STEP, LOOP, value), right, wrong)


class LeastTest(unittest.TestCase):
    def test_least_rules_by_leaving_atoms_out(self):
        """[19.3]"""
        chance = random.Random(198)
        seen = {True: 0, False: 0}
        for _ in range(150):
            rule = drawn_rule(chance, (0, 1, 2, 3), 5)
            plain = least_plainly(rule)
            before = shown(rule)
            told = least_rule(rule)
            self.assertEqual(shown(rule), before)
            self.assertIn(told, plain)
            seen[told == rule] += 1
            for many in range(len(rule[1]) + 1):
                for some in combinations(rule[1], many):
                    self.assertIs(is_least(rule, (rule[0], some)), (rule[0], some) in plain)
            for one in plain:
                for other in plain:
                    self.assertIs(are_same(one, other), True)
        self.assertGreater(min(seen.values()), 30)

    def test_alike_and_same_by_all_dicts(self):
        alike, same = {True: 0, False: 0}, {True: 0, False: 0}
        for one, other in drawn_pairs(199, 500, (0, 1, 2), 3):
            right = maps_plainly(one, other) != [] and maps_plainly(other, one) != []
            self.assertIs(are_alike(one, other), right)
            self.assertIs(are_alike(other, one), right)
            alike[right] += 1
            right = same_plainly(one, other)
            self.assertIs(are_same(one, other), right)
            self.assertIs(are_same(other, one), right)
            same[right] += 1
            if are_alike(one, other):
                self.assertIs(are_same(least_rule(one), least_rule(other)), True)
        self.assertGreater(min(*alike.values(), *same.values()), 50)

    def test_edges(self):
        twice = ((), (("e", (0, 1)), ("f", (1,)), ("e", (0, 1))))
        for atoms in (twice[1][:2], twice[1][1:]):
            self.assertIs(is_least(twice, ((), atoms)), True)
        self.assertIs(is_least(twice, twice), False)
        self.assertIs(are_same(twice, ((), twice[1][:2])), True)
        self.assertIs(are_alike(twice, ((), twice[1][1:])), True)
        self.assertEqual(least_rule(EMPTY), EMPTY)
        self.assertIs(is_least(EMPTY, EMPTY), True)
        self.assertEqual(least_rule(((), (("e", (3,)),) * 8)), ((), (("e", (3,)),)))
        self.assertIs(are_same(STEP, ((0,), (("e", (1, 0)),))), False)
        self.assertIs(are_same(((), STEP[1]), ((), (("e", (4, 3)),))), True)
        self.assertIs(are_same(((), STEP[1]), ((), LOOP[1])), False)
        self.assertIs(are_same(EMPTY, EMPTY), True)
        self.assertIs(are_same(EMPTY, ((), (("e", ()),))), False)

    def test_great_rules(self):
        """Rings of six with both ways fold to one edge, those of five do not."""
        def both_ways(n):
            return ((), tuple(("e", (at, (at + 1) % n)) for at in range(n)))
        self.assertEqual(within_answer(((), (("e", (0, 1)), ("e", (1, 0)))), both_ways(6))[0], "map")
        self.assertEqual(within_answer(((), (("e", (0, 1)), ("e", (1, 0)))), both_ways(5))[0], "tables")
        self.assertEqual(least_rule(both_ways(6)), both_ways(6))
        wide = ((), tuple(("e", (0, 1, 2, at % 6)) for at in range(8)))
        self.assertEqual(len(least_rule(wide)[1]), len(least_plainly(wide)[0][1]))
        free = ((), tuple(("p", (n,)) for n in range(6)) + (("q", (0, 1, 2, 3)), ("q", (2, 3, 4, 5))))
        self.assertIs(are_same(free, ((), free[1][::-1])), True)
        self.assertEqual(least_rule(free), free)

    def test_is_least_as_a_judge(self):
        rule = ((0,), (("e", (0, 1)), ("e", (0, 2)), ("e", (2, 3)), ("e", (0, 4)), ("e", (4, 5))))
        right = [((0,), (("e", (0, 2)), ("e", (2, 3)))), ((0,), (("e", (0, 4)), ("e", (4, 5))))]
        wrong = [rule, ((0,), (("e", (2, 3)), ("e", (0, 2)))), ((0,), (("e", (0, 3)), ("e", (3, 2)))), STEP, EMPTY,
                 ((), right[0][1]), right[0] + (0,), ((0,), (("e", (0, 2)), ("e", (4, 5)))), ROAD, ((0,), ()),
                 ((0,), (("e", (0, 2)), ("e", (2, 3)), ("e", (0, 4)))), ((0,), (("e", (0, HUGE)),)), right[0][1],
                 ((0,), (("e", (0, 2)), ("e", (2, 3)), ("e", (2, 3))))]
        check_judge(self, lambda value: is_least(rule, value), right, wrong)


class WrongArgumentsTest(unittest.TestCase):
    RULES = (InvalidQuestion, ODD + OBJECTS + BOOLS + LONG_NUMBERS + (
        0, (), (0,), ((0,), ()), ((), (("e", (6,)),)), ((), (("E", ()),)), [(), ()], ((), []), ((), (("e", (True,)),)),
        ((True,), (("e", (1,)),)), ((), (("e", (0,)),) * 9), ((), (("e", (0, 0, 0, 0, 0)),)), ((), (("abcdefghi", ()),)),
        ((), (("", ()),)), ((1, 0), (("e", (0, 1)),)), ((2,), STEP[1]), ((), ((0, ()),)),
    ))
    STORES = (InvalidTable, tuple(value for value in ODD if value != {}) + OBJECTS + BOOLS + LONG_NUMBERS + (
        0, (), {"e": 0}, {"E": ()}, {0: ()}, {"e": ((0,), (0,))}, {"e": ((6,),)}, {"e": ((True,),)}, {"e": ((-1,),)},
        {"e": [(0,)]}, {"e": tuple((n, m) for n in range(5) for m in range(5))}, (("e", ()),), {"abcdefghi": ()},
        {"e": ((0, 0, 0, 0, 0),)}, {"e": (0,)},
    ))

    def test_all(self):
        check_wrongs(self, own_store, (STEP,), ((self.RULES,),))
        check_wrongs(self, least_rule, (STEP,), ((self.RULES,),))
        check_wrongs(self, rule_answer, (STEP, {"e": ((0, 1),)}), ((self.RULES,), (self.STORES,)))
        for value in (STEP, None):
            check_wrongs(self, is_least, (STEP, value), ((self.RULES,), ()))
        heads = (InvalidOperation, (EMPTY, ((1,), STEP[1]), ((0, 1), STEP[1]), ((), STEP[1])))
        for call in (within_answer, are_alike, are_same):
            check_wrongs(self, call, (STEP, LOOP), ((self.RULES,), (self.RULES, heads)))
        for value in (("map", {0: 0, 1: 1}), None):
            check_wrongs(self, is_within_answer, (STEP, ROAD, value), ((self.RULES,), (self.RULES, heads), ()))
        refused(self, InvalidQuestion, within_answer, (EMPTY, None))


class NotTrueTest(unittest.TestCase):
    """[19.5]"""

    def test_names_do_not_tell_what_is_within(self):
        self.assertEqual(within_answer(STEP, ROAD)[0], "tables")
        self.assertLessEqual({name for name, _ in ROAD[1]}, {name for name, _ in STEP[1]})

    def test_a_rule_without_equal_atoms_need_not_be_least(self):
        rule = ((0,), (("e", (0, 1)), ("e", (0, 2))))
        self.assertEqual(len(set(rule[1])), 2)
        self.assertIs(is_least(rule, rule), False)
        self.assertEqual(len(least_rule(rule)[1]), 1)


if __name__ == "__main__":
    unittest.main()
