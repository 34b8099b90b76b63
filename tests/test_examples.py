"""The examples of the document, word for word, in its sequence: names that a block sets hold in later ones."""

import unittest
from importlib import import_module

MODULES = ("errors", "base.lots", "base.numbers", "table.tables", "table.joins", "letter.search", "exact.linear",
           "cover.covers", "rank.ranks")

LINES = 27
BLOCKS = (
    ("Examples", """
>>> THREE, RING = (0, 1, 2), ((0, 1), (0, 2), (1, 2))
"""),
    ("Stage 1: lots and bounds", """
>>> [joined_lot((0, 2), (2, 5)), common_lot((0, 2), (2, 5)), rest_lot((0, 2), (2, 5)), are_apart((0, 2), (2, 5)), lots_within((1, 4))]
[(0, 2, 5), (2,), (0,), True, ((), (1,), (1, 4), (4,))]
>>> [power_for(9), is_below(2, (3, 2)), is_below(3, (3, 2)), most_within((3, 2)), compare_bounds((3, 2), (6, 4)), least_terms((6, 4))]
[4, True, False, 2, 0, (3, 2)]
>>> lots_within((4, 1))
raises InvalidLot
"""),
    ("Stage 2: tables", """
>>> T = Table((0, 2), ((1, 7), (1, 5), (3, 5), (1, 7)))
>>> [T.rows, len(T), str(T), (1, 5) in T, project(T, (2,)).rows, degree(T, (0,), (0, 2)), degree(T, (), (0,)), above(T, (0,), (0, 2))]
[((1, 5), (1, 7), (3, 5)), 3, 'table on 0 2, 3 rows', True, ((5,), (7,)), 2, 2, {(1,): 2, (3,): 1}]
>>> [choose(T, 2, 5).rows, section(T, (0,), (1,)).rows, section(T, (0, 2), (3, 5)).rows, project(T, ()).rows, len(Table((0,), ()))]
[((1, 5), (3, 5)), ((5,), (7,)), ((),), ((),), 0]
>>> [renamed(T, {0: 5, 2: 1}).lot, renamed(T, {0: 5, 2: 1}).rows, less(T, Table((0, 2), ((3, 5),))).rows, degree(Table((0,), ()), (), (0,))]
[(1, 5), ((5, 1), (5, 3), (7, 1)), ((1, 5), (1, 7)), 0]
>>> project(T, (0, 1))
raises InvalidOperation
"""),
    ("Stage 3: joins and questions", """
>>> R, S = Table((0, 1), ((1, 1), (1, 2), (2, 2))), Table((1, 2), ((1, 5), (2, 5), (2, 6)))
>>> [join(R, S).rows, join_size(R, S), semi(R, Table((1,), ((2,),))).rows, stuck(S, Table((1,), ((2,),))).rows]
[((1, 1, 5), (1, 2, 5), (1, 2, 6), (2, 2, 5), (2, 2, 6)), 5, ((1, 2), (2, 2)), ((1, 5),)]
>>> Q = Question((0, 1, 2), (R, S, Table((0, 2), ((1, 6), (2, 5)))))
>>> [answer(Q).rows, is_answer_row(Q, (1, 1, 5)), Q.sizes, str(Q), board(Q, 1).rows, len(board(Q, 2))]
[((1, 2, 6), (2, 2, 5)), False, (3, 3, 2), 'question on 0 1 2, parts 0 1; 1 2; 0 2', ((1,), (2,)), 3]
>>> [answer(Question((), ())).rows, answer(Question((), (Table((), ()),))).rows, join(R, Table((4,), ((9,),))).lot]
[((),), (), (0, 1, 4)]
>>> Question((0, 1), (Table((0,), ()),))
raises InvalidQuestion
"""),
    ("Stage 4: letter by letter", """
>>> RING = Question((0, 1, 2), (Table((0, 1), ((1, 1), (1, 2), (2, 1))), Table((0, 2), ((1, 1), (1, 2), (2, 1))), Table((1, 2), ((1, 1), (1, 2), (2, 1)))))
>>> [searched(RING, (0, 1, 2))[1], searched(RING, (0, 1, 2))[0].rows, begun_rows(RING, (2, 0, 1), 1), asked(RING, (0, 1, 2), (2,))]
[(2, 3, 4), ((1, 1, 1), (1, 1, 2), (1, 2, 1), (2, 1, 1)), ((1,), (2,)), (0, (1,))]
>>> [product_of((3, 3, 3), (2, (1, 1, 1))), are_looks_within((2, 3, 4), (3, 3, 3), (2, (1, 1, 1)))]
[27, True]
>>> searched(RING, (0, 1))
raises InvalidLot
"""),
    ("Stage 5: linear programs", """
>>> RING = ((1, 1, 0), (0, 1, 1), (1, 0, 1))
>>> [linear_answer(RING, (1, 1, 1), (1, 1, 1))[0], is_linear(RING, (1, 1, 1), (1, 1, 1), ("least", (4, (2, 2, 2)), (2, (1, 1, 1))))]
['least', True]
>>> [linear_answer(((1,), (-1,)), (3, -2), (0,))[0], linear_answer(((1, -1),), (0,), (-1, 0))[0], value_of((4, 6), (3, (1, 1))), does_fit(((2,),), (3,), 1, (2, (3,)))]
['none', 'endless', (10, 3), True]
>>> [is_linear(((1,), (-1,)), (3, -2), (0,), ("none", (1, 1))), is_linear(((1, -1),), (0,), (-1, 0), ("endless", (1, (0, 0)), (1, 1))), is_linear(((1,),), (2,), (3,), ("least", (2, (4,)), (1, (3,))))]
[True, True, True]
>>> [corners(RING, (1, 1, 1), 3), corners((), (), 2), is_corner(RING, (1, 1, 1), 3, (4, (2, 2, 2)))]
[((1, (0, 1, 1)), (1, (1, 0, 1)), (1, (1, 1, 0)), (2, (1, 1, 1))), ((1, (0, 0)),), True]
>>> linear_answer(((1, 2),), (1,), (1,))
raises InvalidOperation
"""),
    ("Stage 6: covers and packings", """
>>> THREE = ((0, 1), (0, 2), (1, 2))
>>> [cover_answer(THREE, (2, 2, 2))[:2], least_whole(THREE, (2, 2, 2)), cover_corners(THREE)[-1], exponents_of((0, 1, 2, 3, 1000))]
[('least', (3, 1)), (4, (0, 1)), (2, (1, 1, 1)), (0, 0, 1, 2, 10)]
>>> [is_cover(THREE, (2, (1, 1, 0))), is_packing(THREE, (2, 2, 2), (2, {0: 4, 1: 0, 2: 0})), cover_or_packing(THREE, (2, 2, 2), 5, 2)[0], cover_or_packing(THREE, (2, 2, 2), 3, 1)[0]]
[False, True, 'packing', 'cover']
>>> [cover_bound(THREE, (0, 4, 4), (1, (1, 1, 0))), cover_answer(THREE, (0, 4, 4))[1], cover_answer((), ())[1], cover_answer(((),), (5,))[1]]
[(4, 1), (4, 1), (0, 1), (0, 1)]
>>> cover_answer(((0, 1),), (21,))
raises InvalidOperation
"""),
    ("Stage 7: ranks", """
>>> STEP, ODD = step_rank((0, 1), (1,)), parity_rank((0, 1, 2), (0, 1, 2))
>>> [STEP, ODD[(0, 2)], ODD[(0, 1, 2)], is_rank((0, 1), {(): 0, (0,): 1, (0, 1): 1, (1,): 2}), rank_fault((0, 1), {(): 0, (0,): 1, (0, 1): 1, (1,): 2})]
[{(): 0, (0,): 0, (0, 1): 1, (1,): 1}, 2, 2, False, ('rise', 0)]
>>> [rank_fault((0, 1), {(): 0, (0,): 1, (0, 1): 3, (1,): 1}), sum_rank((0, 1), STEP, STEP)[(1,)], contracted_rank((0, 1, 2), ODD, (2,)), restricted_rank((0, 1), STEP, (1,))]
[('cross', 0, 1, ()), 2, {(): 0, (0,): 1, (0, 1): 1, (1,): 1}, {(): 0, (1,): 1}]
>>> [basic_sums((0, 3)), rank_parts((0, 1, 2), ODD), rank_parts((0, 1), {(): 0, (0,): 2, (0, 1): 3, (1,): 2})]
[({(0, 3): 1, (3,): -1}, {(0,): -1, (0, 3): 1}, {(0,): 1, (0, 3): -1, (3,): 1}), {('parity', (0, 1, 2)): 1}, {('step', (0,)): 1, ('step', (0, 1)): 1, ('step', (1,)): 1}]
>>> step_rank((0, 1), ())
raises InvalidOperation
"""),
)


def steps_of(block):
    """The pairs of a source and of what stands below it, None for a line that only sets names."""
    found = []
    for line in block.strip("\n").split("\n"):
        if line.startswith(">>> "):
            found.append([line[4:], None])
        else:
            found[-1][1] = line
    return found


def told(source, names):
    """What the document writes for a source: the result, or the error that is raised and what it keeps."""
    try:
        return repr(eval(source, names))
    except ValueError as error:
        kept = list(vars(error).values())
        return f"raises {type(error).__name__}" + (f"({kept[0]!r})" if kept else "")


class ExamplesTest(unittest.TestCase):
    def test_all_blocks(self):
        names = {}
        for module in MODULES:
            names.update(vars(import_module("crestjoin." + module)))
        lines = 0
        for head, block in BLOCKS:
            for source, wanted in steps_of(block):
                with self.subTest(head=head, source=source):
                    if wanted is None:
                        exec(source, names)
                    else:
                        self.assertEqual(told(source, names), wanted)
                        lines += 1
        self.assertEqual(lines, LINES)


if __name__ == "__main__":
    unittest.main()
