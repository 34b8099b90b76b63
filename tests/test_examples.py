"""The examples of the document, word for word, in its sequence: names that a block sets hold in later ones."""

import unittest
from importlib import import_module

MODULES = ("errors", "base.lots", "base.numbers", "table.tables", "table.joins", "letter.search", "exact.linear",
           "cover.covers", "rank.ranks", "rank.papers", "rank.degrees", "flow.flows", "flow.parts", "flow.plans",
           "flow.rules", "reach.made", "letter.orders", "tree.webs", "tree.sums", "tree.bags", "tree.several",
           "change.kept", "judge.judge", "judge.answers", "use.texts", "use.bench")
# A module that has a name of an earlier one: its names are those of its own stage.
ANEW = {"Stage 19: rules within one another": "within.maps"}

LINES = 81
BLOCKS = (
    ("Examples", """
>>> THREE, RING = (0, 1, 2), ((0, 1), (0, 2), (1, 2))
"""),
    ("Stage 1: lots and bounds", """
>>> [joined_lot((0, 2), (2, 5)), common_lot((0, 2), (2, 5)), rest_lot((0, 2), (2, 5)), are_apart((0, 2), (2, 5)), lots_within((1, 4))]
[(0, 2, 5), (2,), (0,), True, ((), (1,), (1, 4), (4,))]
>>> [power_for(9), is_below(2, (3, 2)), is_below(3, (3, 2)), most_within((3, 2)), compare_bounds((3, 2), (6, 4)), least_terms((6, 4))]
[4, True, False, 2, 0, (3, 2)]
>>> lots_within((4, 1))
raises InvalidLot
"""),
    ("Stage 2: tables", """
>>> T = Table((0, 2), ((1, 7), (1, 5), (3, 5), (1, 7)))
>>> [T.rows, len(T), str(T), (1, 5) in T, project(T, (2,)).rows, degree(T, (0,), (0, 2)), degree(T, (), (0,)), above(T, (0,), (0, 2))]
[((1, 5), (1, 7), (3, 5)), 3, 'table on 0 2, 3 rows', True, ((5,), (7,)), 2, 2, {(1,): 2, (3,): 1}]
>>> [choose(T, 2, 5).rows, section(T, (0,), (1,)).rows, section(T, (0, 2), (3, 5)).rows, project(T, ()).rows, len(Table((0,), ()))]
[((1, 5), (3, 5)), ((5,), (7,)), ((),), ((),), 0]
>>> [renamed(T, {0: 5, 2: 1}).lot, renamed(T, {0: 5, 2: 1}).rows, less(T, Table((0, 2), ((3, 5),))).rows, degree(Table((0,), ()), (), (0,))]
[(1, 5), ((5, 1), (5, 3), (7, 1)), ((1, 5), (1, 7)), 0]
>>> project(T, (0, 1))
raises InvalidOperation
"""),
    ("Stage 3: joins and questions", """
>>> R, S = Table((0, 1), ((1, 1), (1, 2), (2, 2))), Table((1, 2), ((1, 5), (2, 5), (2, 6)))
>>> [join(R, S).rows, join_size(R, S), semi(R, Table((1,), ((2,),))).rows, stuck(S, Table((1,), ((2,),))).rows]
[((1, 1, 5), (1, 2, 5), (1, 2, 6), (2, 2, 5), (2, 2, 6)), 5, ((1, 2), (2, 2)), ((1, 5),)]
>>> Q = Question((0, 1, 2), (R, S, Table((0, 2), ((1, 6), (2, 5)))))
>>> [answer(Q).rows, is_answer_row(Q, (1, 1, 5)), Q.sizes, str(Q), board(Q, 1).rows, len(board(Q, 2))]
[((1, 2, 6), (2, 2, 5)), False, (3, 3, 2), 'question on 0 1 2, parts 0 1; 1 2; 0 2', ((1,), (2,)), 3]
>>> [answer(Question((), ())).rows, answer(Question((), (Table((), ()),))).rows, join(R, Table((4,), ((9,),))).lot]
[((),), (), (0, 1, 4)]
>>> Question((0, 1), (Table((0,), ()),))
raises InvalidQuestion
"""),
    ("Stage 4: letter by letter", """
>>> RING = Question((0, 1, 2), (Table((0, 1), ((1, 1), (1, 2), (2, 1))), Table((0, 2), ((1, 1), (1, 2), (2, 1))), Table((1, 2), ((1, 1), (1, 2), (2, 1)))))
>>> [searched(RING, (0, 1, 2))[1], searched(RING, (0, 1, 2))[0].rows, begun_rows(RING, (2, 0, 1), 1), asked(RING, (0, 1, 2), (2,))]
[(2, 3, 4), ((1, 1, 1), (1, 1, 2), (1, 2, 1), (2, 1, 1)), ((1,), (2,)), (0, (1,))]
>>> [product_of((3, 3, 3), (2, (1, 1, 1))), are_looks_within((2, 3, 4), (3, 3, 3), (2, (1, 1, 1)))]
[27, True]
>>> searched(RING, (0, 1))
raises InvalidLot
"""),
    ("Stage 5: linear programs", """
>>> RING = ((1, 1, 0), (0, 1, 1), (1, 0, 1))
>>> [linear_answer(RING, (1, 1, 1), (1, 1, 1))[0], is_linear(RING, (1, 1, 1), (1, 1, 1), ("least", (4, (2, 2, 2)), (2, (1, 1, 1))))]
['least', True]
>>> [linear_answer(((1,), (-1,)), (3, -2), (0,))[0], linear_answer(((1, -1),), (0,), (-1, 0))[0], value_of((4, 6), (3, (1, 1))), does_fit(((2,),), (3,), 1, (2, (3,)))]
['none', 'endless', (10, 3), True]
>>> [is_linear(((1,), (-1,)), (3, -2), (0,), ("none", (1, 1))), is_linear(((1, -1),), (0,), (-1, 0), ("endless", (1, (0, 0)), (1, 1))), is_linear(((1,),), (2,), (3,), ("least", (2, (4,)), (1, (3,))))]
[True, True, True]
>>> [corners(RING, (1, 1, 1), 3), corners((), (), 2), is_corner(RING, (1, 1, 1), 3, (4, (2, 2, 2)))]
[((1, (0, 1, 1)), (1, (1, 0, 1)), (1, (1, 1, 0)), (2, (1, 1, 1))), ((1, (0, 0)),), True]
>>> linear_answer(((1, 2),), (1,), (1,))
raises InvalidOperation
"""),
    ("Stage 6: covers and packings", """
>>> THREE = ((0, 1), (0, 2), (1, 2))
>>> [cover_answer(THREE, (2, 2, 2))[:2], least_whole(THREE, (2, 2, 2)), cover_corners(THREE)[-1], exponents_of((0, 1, 2, 3, 1000))]
[('least', (3, 1)), (4, (0, 1)), (2, (1, 1, 1)), (0, 0, 1, 2, 10)]
>>> [is_cover(THREE, (2, (1, 1, 0))), is_packing(THREE, (2, 2, 2), (2, {0: 4, 1: 0, 2: 0})), cover_or_packing(THREE, (2, 2, 2), 5, 2)[0], cover_or_packing(THREE, (2, 2, 2), 3, 1)[0]]
[False, True, 'packing', 'cover']
>>> [cover_bound(THREE, (0, 4, 4), (1, (1, 1, 0))), cover_answer(THREE, (0, 4, 4))[1], cover_answer((), ())[1], cover_answer(((),), (5,))[1]]
[(4, 1), (4, 1), (0, 1), (0, 1)]
>>> cover_answer(((0, 1),), (21,))
raises InvalidOperation
"""),
    ("Stage 7: ranks", """
>>> STEP, ODD = step_rank((0, 1), (1,)), parity_rank((0, 1, 2), (0, 1, 2))
>>> [STEP, ODD[(0, 2)], ODD[(0, 1, 2)], is_rank((0, 1), {(): 0, (0,): 1, (0, 1): 1, (1,): 2}), rank_fault((0, 1), {(): 0, (0,): 1, (0, 1): 1, (1,): 2})]
[{(): 0, (0,): 0, (0, 1): 1, (1,): 1}, 2, 2, False, ('rise', 0)]
>>> [rank_fault((0, 1), {(): 0, (0,): 1, (0, 1): 3, (1,): 1}), sum_rank((0, 1), STEP, STEP)[(1,)], contracted_rank((0, 1, 2), ODD, (2,)), restricted_rank((0, 1), STEP, (1,))]
[('cross', 0, 1, ()), 2, {(): 0, (0,): 1, (0, 1): 1, (1,): 1}, {(): 0, (1,): 1}]
>>> [basic_sums((0, 3)), rank_parts((0, 1, 2), ODD), rank_parts((0, 1), {(): 0, (0,): 2, (0, 1): 3, (1,): 2})]
[({(0, 3): 1, (3,): -1}, {(0,): -1, (0, 3): 1}, {(0,): 1, (0, 3): -1, (3,): 1}), {('parity', (0, 1, 2)): 1}, {('step', (0,)): 1, ('step', (0, 1)): 1, ('step', (1,)): 1}]
>>> step_rank((0, 1), ())
raises InvalidOperation
"""),
    ("Stage 8: inequalities between ranks", """
>>> TRIANGLE = cover_total((0, 1, 2), ((0, 1), (0, 2), (1, 2)), (1, 1, 1), 2)
>>> [TRIANGLE, made_sum((0, 1, 2), (((0,), (1, 2), 1), ((0, 1), (0, 2), 1)), ()), inequality_answer((0, 1, 2), TRIANGLE)[0]]
[{(0, 1): 1, (0, 1, 2): -2, (0, 2): 1, (1, 2): 1}, {(0, 1): 1, (0, 1, 2): -2, (0, 2): 1, (1, 2): 1}, 'holds']
>>> [is_inequality_answer((0, 1, 2), TRIANGLE, ("holds", (1, (((0,), (1, 2), 1), ((0, 1), (0, 2), 1)), ()))), value_at((0, 1, 2), TRIANGLE, parity_rank((0, 1, 2), (0, 1, 2)))]
[True, 2]
>>> LESS = cover_total((0, 1, 2), ((0, 1), (1, 2)), (1, 1), 2)
>>> [inequality_answer((0, 1, 2), LESS)[0], is_inequality_answer((0, 1, 2), LESS, ("fails", step_rank((0, 1, 2), (0,)))), is_inequality_answer((0, 1, 2), LESS, ("fails", step_rank((0, 1, 2), (1,))))]
['fails', True, False]
>>> [greater_total((0, 1, 2), {(0,): 1, (0, 1): -1, (1,): 1}, (2,)), lesser_total((0, 1, 2), {(0, 1): 2, (2,): 1, (0, 2): -1}, (0,))]
[{(0, 1, 2): -1, (0, 2): 1, (1, 2): 1, (2,): -1}, {(0,): 1}]
>>> value_at((0, 1), {(0,): 1}, {(): 0, (0,): 1})
raises InvalidRank
"""),
    ("Stage 9: bounds by told degrees", """
>>> ABC, SIDES = (0, 1, 2), (((), (0, 1), 4), ((), (0, 2), 4), ((), (1, 2), 4))
>>> [least_bound(ABC, SIDES)[:2], least_bound(ABC, SIDES[:2])[1], least_bound(ABC, SIDES[:1])[0], reached_letters(ABC, SIDES[:1])]
[('least', (6, 1)), (8, 1), 'endless', (0, 1)]
>>> [bound_answer(ABC, SIDES, 6, 1)[0], bound_answer(ABC, SIDES, 11, 2)[0], least_bound(ABC, SIDES[:2] + (((0,), (0, 1), 0),))[1]]
['paper', 'rank', (4, 1)]
>>> exact_told(Question((0, 1), (Table((0, 1), ((1, 1), (1, 2), (1, 3))),)), (((), (0, 1)), ((0,), (0, 1)), ((1,), (0, 1))))
(((), (0, 1), 2), ((0,), (0, 1), 2), ((1,), (0, 1), 0))
"""),
    ("Stage 10: flows", """
>>> WEB = ((((0, 1, 2), 2),), (((), (0, 1), 1), ((), (0, 2), 1), ((), (1, 2), 1)), (((0,), (1, 2), 1), ((0, 1), (0, 2), 1)), ())
>>> [is_flow((0, 1, 2), WEB), inflow((0, 1, 2), WEB, (0,)), inflow((0, 1, 2), WEB, (0, 1, 2)), weight_of((0, 1, 2), WEB)]
[True, 0, 2, 2]
>>> STEPS = (("cut", (1, 2), (0,)), ("cut", (0, 2), (0, 1)), ("join", (0, 1), (0, 1, 2)), ("goal", (0, 1, 2)), ("join", (0,), (0, 1, 2)), ("goal", (0, 1, 2)))
>>> [are_steps((0, 1, 2), WEB, STEPS), are_steps((0, 1, 2), WEB, STEPS[:4]), is_flow((0, 1, 2), WEB[:3] + ((((0,), (0, 1), 1),),))]
[True, False, False]
>>> is_without((0, 1, 2), WEB, (0, 1), ((((0, 1, 2), 1),), (((), (0, 2), 1), ((), (1, 2), 1)), (((0, 2), (1, 2), 1),), ()))
True
>>> inflow((0, 1, 2), WEB, ())
raises InvalidLot
"""),
    ("Stage 11: cut in pieces", """
>>> T = Table((0, 1), ((1, 1), (1, 2), (1, 3), (2, 1), (3, 1), (4, 5), (4, 6)))
>>> [groups_of(T, (0,)), parted(T, (0,), 3)[0][1].rows, parted(T, (0,), 3)[1][1].rows, len(parted(T, (0,), 3)), parted(T, (0,), 3)[2][0]]
[{(1,): 3, (2,): 1, (3,): 1, (4,): 2}, ((2, 1), (3, 1)), ((4, 5), (4, 6)), 3, 2]
>>> W = Table((0, 1), ((1, 1), (1, 2), (1, 3), (2, 1), (2, 2), (2, 3), (3, 1), (3, 2), (3, 3), (4, 1), (4, 2), (4, 3), (5, 1), (5, 2), (5, 3)))
>>> [parted(W, (0,), 4)[0][0], len(parted(W, (0,), 4)[0][1]), parted(W, (0,), 4)[1][0], parted(W, (0,), 4)[1][1].rows]
[2, 12, 2, ((5, 1), (5, 2), (5, 3))]
>>> [level_of(1), level_of(5), most_parts(3), is_parted(T, (0,), 3, ((3, T),)), is_parted(T, (0,), 3, ((2, T),)), put_together(parted(W, (0,), 4)) == W]
[0, 3, 7, False, False, True]
>>> parted(T, (2,), 3)
raises InvalidOperation
"""),
    ("Stage 12: papers are plans", """
>>> TWO = Table((0, 1), ((0, 0), (0, 1), (1, 0)))
>>> ASK = Question((0, 1, 2), (TWO, Table((0, 2), TWO.rows), Table((1, 2), TWO.rows)))
>>> TOLD = (((), (0, 1), 2), ((), (0, 2), 2), ((), (1, 2), 2))
>>> LOG = (("cut", (1, 2), (0,)), ("cut", (0, 2), (0, 1), ((("join", (0, 1), (0, 1, 2)), ("goal", (0, 1, 2))), (("join", (0, 1), (0, 1, 2)), ("goal", (0, 1, 2))))))
>>> [plan_bound(ASK, TOLD, WEB), is_log(ASK, TOLD, WEB, LOG), log_answer(ASK, TOLD, WEB, LOG).rows, log_sizes(ASK, TOLD, WEB, LOG), log_counts(ASK, TOLD, WEB, LOG)]
[(6, 2), True, ((0, 0, 0), (0, 0, 1), (0, 1, 0), (1, 0, 0)), (1, 1, 2, 1, 1, 4), (2, 0)]
>>> plan_bound(ASK, TOLD + (((0,), (0, 1), 0),), WEB)
raises Refused(('degree', 3))
"""),
    ("Stage 13: rules with several goals", """
>>> FOUR, EDGES = (0, 1, 2, 3), tuple([((), lot, 2) for lot in ((0, 1), (0, 3), (1, 2), (2, 3))])
>>> [rule_bound(FOUR, ((0, 1, 2), (0, 2, 3)), EDGES)[1], rule_bound(FOUR, ((0, 1, 2),), EDGES)[1], rule_bound(FOUR, ((0, 1, 2), (1, 2, 3)), EDGES)[1]]
[(4, 1), (4, 1), (3, 1)]
>>> [rule_answer(FOUR, ((0, 1, 2), (1, 2, 3)), EDGES, 3, 1)[0], rule_answer(FOUR, ((0, 1, 2), (1, 2, 3)), EDGES, 5, 2)[0]]
['paper', 'rank']
"""),
    ("Stage 14: tables made of bits, and bounds that are reached", """
>>> PARITY, THREE = ((1,), (2,), (3,)), (0, 1, 2)
>>> made_table(THREE, PARITY).rows
((0, 0, 0), (0, 1, 1), (1, 0, 1), (1, 1, 0))
>>> R = vector_rank(THREE, PARITY)
>>> [R[(0,)], R[(0, 1)], R[THREE], step_counts(THREE, R)[(0, 1)], step_counts(THREE, R)[THREE]]
[1, 2, 2, 1, -1]
>>> step_vectors(THREE, {(0, 1): 1, (2,): 2})
((1,), (1,), (2, 4))
>>> beside(THREE, PARITY, ((1,), (1,), ()))
((1, 4), (2, 4), (3,))
>>> [len(answer(reaching(THREE, ((0, 1), (1, 2), (0, 2)), PARITY))), is_reached(THREE, (((), (0, 1), 2), ((0, 1), THREE, 0)), PARITY, 4, 2)]
[8, True]
"""),
    ("Stage 15: degrees along an order", """
>>> TOLD = (((), (0,), 2), ((0,), (0, 1), 1), ((), (1, 2), 3), ((1,), (1, 2), 1))
>>> [do_go_along((0, 1, 2), TOLD, (0, 1, 2)), do_go_along((0, 1, 2), TOLD, (1, 0, 2)), letter_bound((0, 1, 2), TOLD, (0, 1, 2))[:2], letter_bound((0, 1, 2), TOLD[:2], (0, 1, 2))]
[True, False, ('least', (4, 1)), ('open', 2)]
>>> [are_weights((0, 1, 2), TOLD, (1, (1, 1, 0, 1))), are_numbers((0, 1, 2), TOLD, (1, {0: 2, 1: 1, 2: 1})), len(full_question((0, 1, 2), ((0, 1), (1, 2)), {0: 2, 1: 1, 2: 1}).parts[0])]
[True, True, 8]
>>> letter_bound((0, 1, 2), TOLD, (1, 0, 2))
raises InvalidOperation
"""),
    ("Stage 16: webs that fold", """
>>> TWIG, SHUT, WHEEL = ((0, 1), (2, 3), (1, 2)), ((0, 1), (0, 2), (1, 2)), ((0, 1), (1, 2), (2, 3), (0, 3))
>>> [is_tree(TWIG, (None, 2, 0)), is_tree(TWIG, (None, 0, 0)), is_tree(((0,), (1,)), (1, None)), is_tree(TWIG, (2, 0, 1)), sequence_of(TWIG, (2, 2, None))]
[True, False, True, False, (2, 0, 1)]
>>> [fold_answer(SHUT), fold_answer(WHEEL), fold_answer(SHUT + ((0, 1, 2),))[0], is_stuck(WHEEL, (0, 1, 2)), fold_answer(()), fold_answer(((),))]
[('stuck', (0, 1, 2)), ('stuck', (0, 1, 2, 3)), 'folds', False, ('folds', ()), ('folds', (None,))]
>>> LEFT, RIGHT = Table((0, 1), ((1, 2), (1, 3), (4, 5))), Table((1, 2), ((2, 7), (3, 7), (9, 9)))
>>> PAIR = Question((0, 1, 2), (LEFT, RIGHT))
>>> [reduced(PAIR, (None, 0))[1].rows, tree_answer(PAIR, (1, None))[0].rows, tree_answer(PAIR, (1, None))[1]]
[((2, 7), (3, 7)), ((1, 2, 7), (1, 3, 7)), (2, 2)]
>>> reduced(PAIR, (0, None))
raises InvalidOperation
"""),
    ("Stage 17: sums over answers", """
>>> ONES = ({(1, 2): 1, (1, 3): 1, (4, 5): 1}, {(2, 7): 1, (3, 7): 1, (9, 9): 1})
>>> PRICES = ({(1, 2): 5, (1, 3): 2, (4, 5): -9}, {(2, 7): 1, (3, 7): 3, (9, 9): 0})
>>> [plain_sum(PAIR, PRICES, ("sum", 0), (0,)), tree_sum(PAIR, (1, None), PRICES, ("least",), (1,)), tree_sum(PAIR, (None, 0), ONES, ("sum", 2), ()), count(PAIR, (None, 0))]
[{(1,): 11}, {(2,): 6, (3,): 5}, {(): 0}, 2]
>>> [notes(PAIR, (1, None), PRICES, ("sum", 0)), shares(PAIR, (None, 0), PRICES, ("sum", 0))[1], best_row(PAIR, (None, 0), PRICES)]
[({(2,): 5, (3,): 2, (5,): -9}, {(): 11}), {(2, 7): 5, (3, 7): 2, (9, 9): 0}, (1, 3, 7)]
>>> plain_sum(PAIR, ONES, ("sum", 1), ())
raises InvalidOperation
"""),
    ("Stage 18: trees of bags", """
>>> SPLIT, OTHER = (((0, 1, 2), (0, 2, 3)), (None, 0)), bags_of(WHEEL, (0, 1, 2, 3))
>>> [OTHER[0], is_bags(WHEEL, SPLIT), is_bags(WHEEL, (WHEEL, (None, 0, 1, 2))), width(WHEEL, EDGES, SPLIT), choices(WHEEL, (SPLIT, OTHER))[0]]
[((0, 1, 3), (1, 2, 3)), True, False, (4, 1), ((0, 1, 2), (0, 1, 3))]
"""),
    ("Stage 19: rules within one another", """
>>> ROAD = ((0,), (("e", (0, 1)), ("e", (1, 2))))
>>> STEP, LOOP = ((0,), (("e", (0, 1)),)), ((0,), (("e", (0, 0)),))
>>> [within_answer(ROAD, STEP), within_answer(LOOP, ROAD), within_answer(STEP, ROAD)[0]]
[('map', {0: 0, 1: 1}), ('map', {0: 0, 1: 0, 2: 0}), 'tables']
>>> [own_store(ROAD), rule_answer(ROAD, {"e": ((3, 4), (4, 4), (5, 3))})]
[{'e': ((0, 1), (1, 2))}, ((3,), (4,), (5,))]
>>> least_rule(((0,), (("e", (0, 1)), ("e", (0, 2)), ("e", (2, 3)))))
((0,), (('e', (0, 2)), ('e', (2, 3))))
>>> [is_least(ROAD, ROAD), are_alike(ROAD, STEP), are_same(ROAD, ((0,), (("e", (4, 5)), ("e", (0, 4)))))]
[True, False, True]
>>> within_answer(ROAD, ((), (("e", (0, 1)),)))
raises InvalidOperation
"""),
    ("Stage 20: answers that are kept", """
>>> R, S = Table((0, 1), ((1, 1), (1, 2), (2, 2))), Table((1, 2), ((1, 5), (2, 5)))
>>> Q = Question((0, 1, 2), (R, S, Table((0, 2), ((1, 5), (2, 6)))))
>>> [brought(Q, 0, (1, 2))[0].rows, look_bounds(Q, 0), brought(Q, 1, (2, 6))[1]]
[((1, 2, 5),), (1,), (1,)]
>>> K = Kept(Q)
>>> [len(K), K.put(1, (2, 6)).rows, K.put(1, (2, 6)).rows, len(K), K.looks, K.take(0, (1, 1)).rows, K.answer.rows, K.changes]
[2, ((2, 2, 6),), (), 3, 1, ((1, 1, 5),), ((1, 2, 5), (2, 2, 6)), 2]
>>> [K.undo().rows, K.undo().rows, K.answer == answer(Q), (1, 1, 5) in K, str(K)]
[((1, 1, 5),), ((2, 2, 6),), True, True, 'kept question on 0 1 2, parts 0 1; 1 2; 0 2, 2 rows']
>>> K.undo()
raises Refused(('undo',))
"""),
    ("Stage 21: claims and papers", """
>>> ABC, SIDES = (0, 1, 2), (((), (0, 1), 4), ((), (0, 2), 4), ((), (1, 2), 4))
>>> FLOW = (((ABC, 2),), tuple([(low, high, 1) for low, high, k in SIDES]), (((0,), (1, 2), 1), ((0, 1), (0, 2), 1)), ())
>>> [takes(("below", ABC, SIDES, 6, 1), FLOW), takes(("below", ABC, SIDES, 11, 2), FLOW), answered(("below", ABC, SIDES, 11, 2))[0][0], opposite(("cover", (ABC,), (3,), 2, 1))]
[True, False, 'above', ('packing', ((0, 1, 2),), (3,), 2, 1)]
>>> [takes(("stuck", ((0, 1), (0, 2), (1, 2))), ABC), takes(("at most", ((2,),), (3,), (1,), 3, 2), (2, (3,))), takes(("more", ((2,),), (3,), (1,), 1, 1), ("prices", (2, (1,))))]
[True, True, True]
>>> CLAIM = ("few", (0, 1), (((0, 1), ((1, 1), (1, 2), (2, 2))),), 2, 1)
>>> [answered(CLAIM)[0][0], takes(opposite(CLAIM), ((1, 1), (1, 2), (2, 2))), answered(("few",) + CLAIM[1:3] + (1, 1))[0][0]]
['few', False, 'many']
>>> opposite(("folds",))
raises InvalidClaim
"""),
    ("Stage 22: texts and a bench", """
>>> T = read_table("table ac\\n-3,7\\n1,5\\n")
>>> [T.lot, T.rows, lot_text(()), question_text(Question((), (Table((), ((),)),))), told_text((0, 1), (((), (0, 1), 4),))]
[(0, 2), ((-3, 7), (1, 5)), '-', 'question -\\ntable -\\n.\\n', '- ab 4\\n']
>>> read_table("table ac\\n1,5\\n1,05\\n")
raises ParseError(2)
>>> B = Bench()
>>> [B.tell(line) for line in ("new r ab", "put r 0,1", "put r 1,1", "new s b", "put s 1", "ask r s", "answer", "bound")]
['r: 0 rows', 'r: 1 rows', 'r: 2 rows', 's: 0 rows', 's: 1 rows', 'question on 0 1, parts 0 1; 1', '2 rows: 0,1 1,1', 'at most 2 ** (1 / 1)']
>>> [B.tell("looks ba"), B.tell("fold"), B.tell("take r 0,1"), B.tell("answer"), B.tell("undo"), str(B), B.table("r").rows]
['3 looks', 'folds', 'r: 1 rows', '2 rows: 0,1 1,1', 'undone', 'bench of 2 tables, 13 lines', ((0, 1), (1, 1))]
>>> B.tell("put r 0,01")
raises ParseError(2)
"""),
)


def steps_of(block):
    """The pairs of a source and of what stands below it, None for a line that only sets names."""
    found = []
    for line in block.strip("\n").split("\n"):
        if line.startswith(">>> "):
            found.append([line[4:], None])
        else:
            found[-1][1] = line
    return found


def told(source, names):
    """What the document writes for a source: the result, or the error that is raised and what it keeps."""
    try:
        return repr(eval(source, names))
    except ValueError as error:
        kept = list(vars(error).values())
        return f"raises {type(error).__name__}" + (f"({kept[0]!r})" if kept else "")


class ExamplesTest(unittest.TestCase):
    def test_all_blocks(self):
        names = {}
        for module in MODULES:
            names.update(vars(import_module("crestjoin." + module)))
        lines = 0
        for head, block in BLOCKS:
            if head in ANEW:
                names.update(vars(import_module("crestjoin." + ANEW[head])))
            for source, wanted in steps_of(block):
                with self.subTest(head=head, source=source):
                    if wanted is None:
                        exec(source, names)
                    else:
                        self.assertEqual(told(source, names), wanted)
                        lines += 1
        self.assertEqual(lines, LINES)


if __name__ == "__main__":
    unittest.main()
