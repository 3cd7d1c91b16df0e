"""run_flat and run_all: what the flat machine tells and counts, by hand."""

import copy
import unittest

from nestrows.errors import BadWorth, NoFunction
from nestrows.machine import run_all, run_flat
from nestrows.nested import run
from tests.helper import name, num, only, refused

A, B, C, D = name(0), name(1), name(2), name(3)
X, Y, Z = name(5), name(6), name(7)
FORTY = tuple(range(40))


def program_of(body, depth, *handed):
    return only(body, depth, *[(x, pair[0]) for x, pair in enumerate(handed)])


class Checks(unittest.TestCase):
    def check(self, body, depth, handed, worth, steps, work, taken=0):
        """Of one function, handed (depth, worth) each; without a fault."""
        program, worths = program_of(body, depth, *handed), [pair[1] for pair in handed]
        wanted = (("worth", worth), steps, work, taken, (1,))
        self.assertEqual(run_flat(program, 0, worths), wanted)
        self.assertEqual(run(program, 0, worths), (("worth", worth), work, (1,)))

    def check_fault(self, body, depth, handed, fault, steps, work, taken=0):
        program, worths = program_of(body, depth, *handed), [pair[1] for pair in handed]
        wanted = (("fault",) + fault, steps, work, taken, (1,))
        self.assertEqual(run_flat(program, 0, worths), wanted)
        self.assertEqual(run(program, 0, worths)[0], ("fault",) + fault)


class Sorts(Checks):
    def test_kinds(self):
        answer = run_flat(program_of(("less", A, B), 0, (0, 1), (0, 2)), 0, [1, 2])
        self.assertEqual([type(part) for part in answer], [tuple, int, int, int, tuple])
        self.assertIs(type(answer[0][1]), int)
        answer = run_all(program_of(("less", A, B), 0, (0, 1), (0, 2)), 0, [[1, 2]])
        self.assertEqual([type(part) for part in answer], [list, int, int, int, tuple])

    def test_num_and_name(self):
        for n in (0, 10006):
            self.check(num(n), 0, (), n, 1, 1)
        for depth, worth in enumerate((5, (5, 6), ((), (1,), ()), (((7,), ()), (), ((), (1, 2))))):
            self.check(A, depth, ((depth, worth),), worth, 0, 0)

    def test_two_sided(self):
        cases = (
            ("plus", 10006, 2, 1), ("plus", 3, 4, 7), ("minus", 3, 5, 10005), ("minus", 5, 3, 2),
            ("times", 10006, 10006, 1), ("times", 6, 7, 42), ("less", 1, 2, 1), ("less", 2, 2, 0), ("less", 2, 1, 0),
            ("same", 2, 2, 1), ("same", 1, 2, 0),
        )
        for word, first, second, worth in cases:
            self.check((word, A, B), 0, ((0, first), (0, second)), worth, 1, 1)
            self.check((word, num(first), num(second)), 0, (), worth, 3, 3)

    def test_let(self):
        self.check(("let", 5, ("plus", A, num(1)), ("times", X, X)), 0, ((0, 4),), 25, 3, 3)
        self.check(("let", 5, A, X), 1, ((1, (1, 2)),), (1, 2), 0, 0)

    def test_upto(self):
        for many in (0, 1, 3, 40):
            self.check(("upto", A), 1, ((0, many),), tuple(range(many)), 1, 1 + many)

    def test_len(self):
        for depth, worth in ((1, (4, 5)), (2, ((), (1, 2, 3))), (3, ((), ((), (), ())))):
            self.check(("len", A), 0, ((depth, worth),), 2, 1, 1)
        self.check(("len", A), 0, ((3, ()),), 0, 1, 1)

    def test_sum_and_sums(self):
        for row, total, sums in (((), 0, ()), ((1, 2, 3), 6, (0, 1, 3)), ((10006, 10006, 5), 3, (0, 10006, 10005))):
            self.check(("sum", A), 0, ((1, row),), total, 1, 1 + len(row))
            self.check(("sums", A), 1, ((1, row),), sums, 1, 1 + len(row))

    def test_one(self):
        self.check(("one", A), 1, ((0, 5),), (5,), 1, 2)
        self.check(("one", A), 2, ((1, (5, 6)),), ((5, 6),), 1, 2)
        self.check(("one", A), 3, ((2, ((5,), ())),), (((5,), ()),), 1, 2)

    def test_pick(self):
        self.check(("pick", A, B), 0, ((1, (7, 8, 9)), (0, 2)), 9, 1, 1)
        self.check(("pick", A, B), 1, ((2, ((7,), (8, 9))), (0, 1)), (8, 9), 1, 1)
        self.check(("pick", A, B), 2, ((3, (((7,),), ((), (8, 9)))), (0, 1)), ((), (8, 9)), 1, 1)

    def test_put(self):
        self.check(("put", A, B), 1, ((1, (1, 2)), (1, (3,))), (1, 2, 3), 1, 4)
        self.check(("put", A, B), 2, ((2, ((1, 2), ())), (2, ((3,),))), ((1, 2), (), (3,)), 1, 4)
        self.check(("put", A, A), 3, ((3, (((1, 2), ()),)),), (((1, 2), ()),) * 2, 1, 3)
        self.check(("put", A, A), 1, ((1, FORTY[:20]),), FORTY[:20] * 2, 1, 41)
        self.check(("put", A, A), 1, ((1, ()),), (), 1, 1)

    def test_flat(self):
        self.check(("flat", A), 1, ((2, ((1, 2), (), (3,))),), (1, 2, 3), 1, 4)
        self.check(("flat", A), 2, ((3, (((1, 2), ()), (), ((3,),))),), ((1, 2), (), (3,)), 1, 4)
        self.check(("flat", A), 1, ((2, ((),) * 40),), (), 1, 1)


class Choices(Checks):
    def test_one_lane_goes_into_one_block(self):
        body = ("if", A, num(8), ("plus", B, num(1)))
        self.check(body, 0, ((0, 0), (0, 8)), 9, 3, 3, 1)
        self.check(body, 0, ((0, 10006), (0, 8)), 8, 2, 2, 1)

    def test_blocks_without_rows(self):
        self.check(("if", A, B, C), 1, ((0, 1), (1, (5,)), (1, (6,))), (5,), 1, 1, 2)
        self.check(("if", A, B, C), 1, ((0, 0), (1, (5,)), (1, (6,))), (6,), 1, 1, 2)

    BODY = ("each", 5, A, ("if", X, ("plus", X, B), ("times", B, ("plus", B, num(3)))))

    def test_all_lanes_go_one_way(self):
        # each, if and plus; the if's blocks take in item and B, the each's block takes in B.
        self.check(self.BODY, 1, ((1, (1, 2, 3)), (0, 7)), (8, 9, 10), 3, (1 + 3) + 3 + 3, 3 + 2 * 3)
        self.check(self.BODY, 1, ((1, (0, 0)), (0, 7)), (70, 70), 5, (1 + 2) + 2 + 3 * 2, 2 + 2 * 2)

    def test_lanes_part(self):
        told = (70, 8, 70, 12)
        self.check(self.BODY, 1, ((1, (0, 1, 0, 5)), (0, 7)), told, 6, (1 + 4) + 4 + 2 * 1 + 2 * 3, 4 + 2 * 4)

    def test_choices_within_choices(self):
        inner = ("if", ("less", X, num(2)), num(11), num(12))
        body = ("each", 5, A, ("if", X, inner, num(10)))
        # each, if, num 10; of two lanes less, num, if; of one each num.
        self.check(body, 1, ((1, (0, 1, 2)),), (10, 11, 12), 8, 4 + 3 + 1 + 3 * 2 + 1 + 1, 3)


class Items(Checks):
    def test_each(self):
        self.check(("each", 5, A, X), 1, ((1, (1, 2)),), (1, 2), 1, 3)
        self.check(("each", 5, A, ("plus", X, B)), 1, ((1, FORTY), (0, 1)), tuple(range(1, 41)), 2, 81, 40)
        self.check(("each", 5, A, ("upto", X)), 2, ((1, (2, 0, 1)),), ((0, 1), (), (0,)), 2, 4 + 3 + 3)
        self.check(("each", 5, A, B), 2, ((1, (1, 2)), (1, (8, 9))), ((8, 9), (8, 9)), 1, 3, 2)
        self.check(("each", 5, A, ("pick", X, num(0))), 2, ((3, (((1, 2), ()), ((3,),))),), ((1, 2), (3,)), 3, 3 + 2 + 2)

    def test_where(self):
        self.check(("where", 5, A, ("less", X, B)), 1, ((1, (3, 1, 4, 1)), (0, 3)), (1, 1), 2, 5 + 4, 4)
        self.check(("where", 5, A, ("len", X)), 2, ((2, ((), (7, 8), ())),), ((7, 8),), 2, 4 + 3)
        self.check(("where", 5, A, ("len", X)), 3, ((3, (((), ()), ())),), (((), ()),), 2, 3 + 2)
        self.check(("where", 5, A, X), 1, ((1, (0, 2, 0)),), (2,), 1, 4)
        self.check(("where", 5, A, B), 1, ((1, (1, 2)), (0, 0)), (), 1, 3, 2)

    def test_rows_of_no_items(self):
        for word, depth in (("each", 1), ("where", 1)):
            # A block without lanes isn't gone into.
            self.check((word, 5, A, ("plus", X, B)), depth, ((1, ()), (0, 1)), (), 1, 1)
        self.check(("each", 5, A, ("each", 6, X, ("plus", Y, B))), 2, ((2, ((), ())), (0, 1)), ((), ()), 2, 3 + 2, 2)
        self.check(("each", 5, A, ("one", ("one", X))), 3, ((1, ()),), (), 1, 1)

    def test_some_rows_of_no_items(self):
        body = ("each", 5, A, ("each", 6, X, ("plus", Y, B)))
        told = ((), (2, 3), (), (4,), ())
        self.check(body, 2, ((2, ((), (1, 2), (), (3,), ())), (0, 1)), told, 3, 6 + (5 + 3) + 3, 5 + 3)
        body = ("each", 5, A, ("where", 6, X, ("less", Y, B)))
        told = ((), (1,), (), (), ())
        self.check(body, 2, ((2, ((), (1, 2), (), (3,), ())), (0, 2)), told, 3, 6 + (5 + 3) + 3, 5 + 3)

    def test_to_depth_3(self):
        body = ("each", 5, A, ("each", 6, X, ("each", 7, Y, ("plus", Z, ("len", X)))))
        worth = (((1, 2), ()), (), ((3,),))
        told = (((3, 4), ()), (), ((4,),))
        # X is taken in by the two inner blocks.
        self.check(body, 3, ((3, worth),), told, 5, 4 + (3 + 3) + (3 + 3) + 3 * 2, 3 + 3)
        body = ("each", 5, A, ("each", 6, X, ("where", 7, Y, ("less", Z, ("len", X)))))
        told = (((1,), ()), (), ((),))
        self.check(body, 3, ((3, worth),), told, 5, 4 + (3 + 3) + (3 + 3) + 3 * 2, 3 + 3)
        body = ("where", 5, A, ("len", ("where", 6, X, ("len", Y))))
        told = (((1, 2), ()), ((3,),))
        self.check(body, 3, ((3, worth),), told, 4, 4 + (3 + 3) + 3 + 3)

    def test_rows_handed_on_by_items(self):
        body = ("each", 5, A, ("put", B, ("one", X)))
        self.check(body, 3, ((2, ((1,), ())), (2, ((8, 9),))), (((8, 9), (1,)), ((8, 9), ())), 3, 3 + 4 + 6, 2)
        body = ("each", 5, ("upto", num(3)), ("flat", ("each", 6, A, ("put", Y, ("one", X)))))
        told = ((1, 0, 2, 0), (1, 1, 2, 1), (1, 2, 2, 2))
        work = 1 + 4 + 4 + (3 + 6) + 6 * 2 + 6 * 3 + (3 + 12)
        self.check(body, 2, ((2, ((1,), (2,))),), told, 7, work, 3 + 6)

    def test_full_rows(self):
        rows = (FORTY,) * 40
        told = (tuple(k + 1 for k in FORTY),) * 40
        body = ("each", 5, A, ("each", 6, X, ("plus", Y, num(1))))
        self.check(body, 2, ((2, rows),), told, 4, 41 + (40 + 1600) + 2 * 1600)

    def test_more_items_take_no_more_steps(self):
        body = ("each", 5, A, ("if", X, ("sum", ("upto", X)), num(7)))
        program = only(body, 1, (0, 1))
        steps = run_flat(program, 0, [(0, 3)])[1]
        self.assertEqual(steps, 5)
        for many in (2, 4, 8, 20):
            self.assertEqual(run_flat(program, 0, [(0, 3) * many])[1], steps)


def going_down():
    """Tells 0 by calls of itself: of n there are n + 1 calls within one another."""
    body = ("if", A, ("call", 0, (("minus", A, num(1)),)), num(0))
    return only(body, 0, (0, 0))


def factorial():
    body = ("if", A, ("times", A, ("call", 0, (("minus", A, num(1)),))), num(1))
    return only(body, 0, (0, 0))


class Calls(Checks):
    def test_rows_of_the_called_function(self):
        program = ((((3, 0),), 0, ("plus", name(3), name(3))), (((0, 0),), 0, ("call", 0, (("call", 0, (A,)),))),
                   ((), 0, ("call", 1, (num(5),))))
        self.assertEqual(run_flat(program, 0, [7]), (("worth", 14), 1, 1, 0, (1, 0, 0)))
        self.assertEqual(run_flat(program, 1, [7]), (("worth", 28), 4, 4, 0, (1, 1, 0)))
        self.assertEqual(run_flat(program, 2, []), (("worth", 20), 6, 6, 0, (1, 1, 1)))

    def test_functions_without_rows(self):
        program = ((((3, 1), (4, 1)), 1, name(4)), ((), 1, ("call", 0, (("upto", num(1)), ("upto", num(2))))))
        self.assertEqual(run_flat(program, 1, []), (("worth", (0, 1)), 5, 5 + 1 + 2, 0, (1, 1)))
        self.assertEqual(run_flat(program, 0, [(1,), (2,)]), (("worth", (2,)), 0, 0, 0, (1, 0)))

    def test_arguments_come_to_params_in_order(self):
        first = (((9, 0), (2, 1), (5, 0)), 0, ("minus", ("pick", name(2), name(5)), name(9)))
        program = (first, ((), 0, ("call", 0, (num(3), ("upto", num(20)), num(12)))))
        self.assertEqual(run_flat(program, 1, [])[0], ("worth", 9))
        self.assertEqual(run_flat(program, 0, [3, (10, 20), 1])[0], ("worth", 17))

    def test_itself(self):
        # A call that goes on does if, num, minus, call, times; the last one if and num. The if takes in the param.
        self.assertEqual(run_flat(factorial(), 0, [5]), (("worth", 120), 5 * 5 + 2, 27, 6, (6,)))

    def test_for_all_lanes_at_once(self):
        program = factorial() + ((((0, 1),), 1, ("each", 1, A, ("call", 0, (B,)))),)
        # Steps are those of the longest way, and the num of each lane's end once at each depth that has one.
        told = run_flat(program, 1, [(3, 0, 4)])
        work = 1 + 3 + 3 + (17 + 2 + 22)
        steps = 2 + (4 * 5 + 2) + 2
        taken = 4 + 1 + 5
        self.assertEqual(told, (("worth", (6, 1, 24)), steps, work, taken, (5, 1)))
        self.assertEqual(run_flat(program, 1, [(4, 4, 4)])[1], 2 + 4 * 5 + 2)
        self.assertEqual(run_flat(program, 1, [(4,) * 40])[1], 2 + 4 * 5 + 2)
        self.assertEqual(run_flat(program, 1, [()]), (("worth", ()), 1, 1, 0, (0, 1)))

    def test_in_both_blocks_of_an_if(self):
        first = (((0, 0),), 0, ("plus", A, num(1)))
        second = (((0, 1),), 1, ("each", 5, A, ("if", X, ("call", 0, (X,)), ("call", 0, (num(9),)))))
        # each, if, and in the blocks call, plus, num, and num, call, plus, num.
        self.assertEqual(run_flat((first, second), 1, [(0, 3, 0)]),
                         (("worth", (10, 4, 10)), 2 + 3 + 4, 1 + 3 + 3 + 3 + 2 * 4, 3, (1, 1)))

    def test_the_30th_call_and_the_31st(self):
        self.assertEqual(run_flat(going_down(), 0, [29]), (("worth", 0), 29 * 4 + 2, 29 * 4 + 2, 30, (30,)))
        fault = ("fault", "deep", 0, 2)
        self.assertEqual(run_flat(going_down(), 0, [30]), (fault, 30 * 4, 30 * 4, 30, (30,)))
        self.assertEqual(run_flat(going_down(), 0, [10006]), (fault, 30 * 4, 30 * 4, 30, (30,)))

    def test_the_31st_in_some_lanes_only(self):
        told, steps, work, taken, deepest = run_all(going_down(), 0, [[29], [30], [0], [31], [28]])
        fault = ("fault", "deep", 0, 2)
        self.assertEqual(told, [("worth", 0), fault, ("worth", 0), fault, ("worth", 0)])
        # At 30 depths four rows, and the num in which lanes end at three depths.
        self.assertEqual(steps, 30 * 4 + 3)
        self.assertEqual(work, (29 * 4 + 2) + 30 * 4 + 2 + 30 * 4 + (28 * 4 + 2))
        self.assertEqual(taken, 30 + 30 + 1 + 30 + 29)
        self.assertEqual(deepest, (30,))
        program = going_down() + ((((0, 1),), 1, ("each", 5, A, ("call", 0, (X,)))),)
        self.assertEqual(run_flat(program, 1, [(29, 5)])[0], ("worth", (0, 0)))
        self.assertEqual(run_flat(program, 1, [(29, 5, 30)])[0], fault)
        program = going_down() + ((((0, 1),), 1, ("where", 5, A, ("call", 0, (X,)))),)
        self.assertEqual(run_flat(program, 1, [(29, 5)])[0], ("worth", ()))

    def test_calls_behind_one_another_are_not_within(self):
        pair = ("plus", ("call", 0, (A,)), ("call", 0, (B,)))
        program = going_down() + ((((0, 0), (1, 0)), 0, pair),)
        self.assertEqual(run_flat(program, 1, [29, 29])[0], ("worth", 0))
        self.assertEqual(run_flat(program, 1, [3, 7])[4], (8, 1))
        self.assertEqual(run_flat(program, 1, [7, 3])[4], (8, 1))

    def test_calls_are_left_where_all_lanes_fault(self):
        picks = (((0, 1),), 0, ("pick", A, num(0)))
        body = ("each", 5, A, ("call", 0, (X,)))
        program = (picks, (((0, 2),), 1, body))
        told, *counted = run_all(program, 1, [[((),)], [((7,),)]])
        self.assertEqual(told, [("fault", "beyond", 0, 0), ("worth", (7,))])
        self.assertEqual(counted[-1], (1, 1))
        double = ("plus", ("sum", ("each", 5, A, ("call", 0, (X,)))), ("sum", ("each", 5, B, ("call", 0, (X,)))))
        program = (picks, (((0, 2), (1, 2)), 0, double))
        told, *counted = run_all(program, 1, [[((),), ()], [(), ((7,),)]])
        self.assertEqual((told, counted[-1]), ([("fault", "beyond", 0, 0), ("worth", 7)], (1, 1)))

    def test_all_six_thirty_deep_within_many_blocks(self):
        """Calls and blocks within one another in their thousands."""
        functions = []
        for k in range(6):
            again = ("call", k, (("minus", A, num(1)),))
            for level in range(4):
                again = ("sum", ("each", 9, ("one", num(1)), again))
            below = num(1) if k == 0 else ("call", k - 1, (num(29),))
            functions.append((((0, 0),), 0, ("if", A, again, below)))
        told, steps, work, taken, deepest = run_flat(tuple(functions), 5, [29])
        self.assertEqual((told, deepest), (("worth", 1), (30,) * 6))
        self.assertEqual(run(tuple(functions), 5, [29]), (told, work, deepest))
        # Of 29 calls each does if, four of num, one, each and sum, call, minus, num; the 30th if, call, num, or if, num.
        self.assertEqual(steps, 6 * 29 * 20 + 5 * 3 + 2)

    def test_deepest_of_functions_that_were_not_called(self):
        good = ((), 0, num(1))
        chosen = (((0, 0),), 0, ("if", A, ("call", 1, ()), ("call", 2, ())))
        program = (good, good, good, chosen, good)
        self.assertEqual(run_flat(program, 3, [1])[4], (0, 1, 0, 1, 0))
        self.assertEqual(run_flat(program, 3, [0])[4], (0, 0, 1, 1, 0))
        self.assertEqual(run_all(program, 3, [[0], [1]])[4], (0, 1, 1, 1, 0))


class Faults(Checks):
    def test_each_sort(self):
        for many in (41, 10006):
            self.check_fault(("upto", A), 1, ((0, many),), ("many", 0, 0), 1, 1)
        self.check_fault(("put", A, B), 1, ((1, FORTY), (1, (1,))), ("many", 0, 0), 1, 1)
        self.check_fault(("put", A, A), 3, ((3, ((),) * 21),), ("many", 0, 0), 1, 1)
        self.check_fault(("flat", A), 1, ((2, (FORTY, (), (1,))),), ("many", 0, 0), 1, 1)
        self.check_fault(("flat", A), 2, ((3, (((),) * 40, ((),))),), ("many", 0, 0), 1, 1)
        self.check_fault(("pick", A, B), 0, ((1, (5, 6)), (0, 2)), ("beyond", 0, 0), 1, 1)
        self.check_fault(("pick", A, B), 2, ((3, ()), (0, 0)), ("beyond", 0, 0), 1, 1)

    def test_up_to_the_most(self):
        self.check(("put", A, B), 1, ((1, FORTY[:39]), (1, (1,))), FORTY[:39] + (1,), 1, 41)
        self.check(("flat", A), 1, ((2, (FORTY, ())),), FORTY, 1, 41)
        self.check(("pick", A, B), 0, ((1, FORTY), (0, 39)), 39, 1, 1)
        self.check_fault(("pick", A, B), 0, ((1, FORTY), (0, 40)), ("beyond", 0, 0), 1, 1)

    def test_nothing_behind_is_done(self):
        body = ("plus", ("plus", num(1), ("pick", A, num(0))), ("len", ("upto", num(50))))
        self.check_fault(body, 0, ((1, ()),), ("beyond", 0, 3), 3, 3)

    def test_other_items_go_on(self):
        body = ("each", 5, A, ("plus", ("pick", B, X), ("times", X, num(2))))
        # each, and of four lanes pick, of which two fault; of the other two num, times and plus.
        handed = ((1, (0, 7, 1, 8)), (1, (5, 6)))
        self.check_fault(body, 1, handed, ("beyond", 0, 3), 5, 5 + 4 + 2 * 3, 4)
        # All fault: no row behind is done.
        self.check_fault(body, 1, ((1, (3, 4)), (1, (5, 6))), ("beyond", 0, 3), 2, 3 + 2, 2)
        kept = ("where", 5, A, ("plus", ("pick", B, X), ("times", X, num(2))))
        self.check_fault(kept, 1, handed, ("beyond", 0, 3), 5, 5 + 4 + 2 * 3, 4)

    def test_the_lane_outside_goes_on_no_more(self):
        body = ("len", ("each", 5, A, ("pick", B, X)))
        self.check_fault(body, 0, ((1, (0, 7)), (1, (5,))), ("beyond", 0, 3), 2, 3 + 2, 2)
        body = ("each", 5, A, ("len", ("each", 6, X, ("pick", B, Y))))
        # Of three lanes one faults: len is done for two.
        handed = ((2, ((0,), (0, 7), ())), (1, (5,)))
        self.check_fault(body, 1, handed, ("beyond", 0, 5), 4, 4 + (3 + 3) + 3 + 2, 3 + 3)

    def test_the_first_items_fault_though_a_later_item_meets_one_sooner(self):
        body = ("each", 5, A, ("plus", ("pick", B, X), ("len", ("upto", ("times", X, num(20))))))
        # Item 3 is beyond, and left out; item 2 goes on, by a row of 40.
        self.check_fault(body, 1, ((1, (3, 2)), (1, (9, 9, 9))), ("beyond", 0, 3), 7, 3 + 2 + 3 + 40 + 2, 2)
        told = run_flat(only(body, 1, (0, 1), (1, 1)), 0, [(3, 4), (9, 9, 9, 9)])
        self.assertEqual(told[0], ("fault", "many", 0, 7))
        told = run_flat(only(body, 1, (0, 1), (1, 1)), 0, [(4, 3), (9, 9, 9, 9)])
        self.assertEqual(told[0], ("fault", "beyond", 0, 3))
        # 3 meets many at upto, the row behind; 4 meets beyond at pick, the row ahead.
        for row, fault in (((0, 3, 4), ("many", 0, 7)), ((0, 4, 3), ("beyond", 0, 3)), ((1, 4, 4, 3), ("beyond", 0, 3))):
            told = run(only(body, 1, (0, 1), (1, 1)), 0, [row, (9, 9, 9, 9)])[0]
            self.assertEqual(told, ("fault",) + fault)
            self.assertEqual(run_flat(only(body, 1, (0, 1), (1, 1)), 0, [row, (9, 9, 9, 9)])[0], told)

    def test_the_first_of_items_in_different_blocks_of_an_if(self):
        body = ("each", 5, A, ("if", X, ("pick", B, num(0)), ("len", ("upto", num(41)))))
        self.check_fault(body, 1, ((1, (0, 1)), (1, ())), ("many", 0, 8), 6, 3 + 2 + 2 + 2, 2 + 2)
        self.check_fault(body, 1, ((1, (1, 0)), (1, ())), ("beyond", 0, 4), 6, 3 + 2 + 2 + 2, 2 + 2)

    def test_of_items_within_items(self):
        body = ("each", 5, A, ("sum", ("each", 6, X, ("plus", ("pick", B, Y), ("len", ("upto", ("times", Y, num(20))))))))
        for rows, fault in (
            (((0, 3), (4,)), ("many", 0, 10)), (((0, 4), (3,)), ("beyond", 0, 6)), (((), (3, 4), (4,)), ("many", 0, 10)),
        ):
            told = run_flat(only(body, 1, (0, 2), (1, 1)), 0, [rows, (9, 9, 9, 9)])
            self.assertEqual(told[0], ("fault",) + fault)
            self.assertEqual(run(only(body, 1, (0, 2), (1, 1)), 0, [rows, (9, 9, 9, 9)])[0], told[0])

    def test_in_a_called_function(self):
        first = (((0, 1),), 0, ("plus", num(1), ("pick", A, num(3))))
        second = (((0, 0),), 0, ("plus", ("call", 0, (("upto", A),)), ("pick", ("upto", num(0)), num(0))))
        program = (first, second, ((), 0, num(1)))
        self.assertEqual(run_flat(program, 1, [3]), (("fault", "beyond", 0, 2), 5, 4 + 1 + 3, 0, (1, 1, 0)))
        self.assertEqual(run_flat(program, 1, [4]), (("fault", "beyond", 1, 4), 10, 5 + 1 + 4 + 4, 0, (1, 1, 0)))

    def test_calls_of_lanes_that_go_on(self):
        picks = (((0, 0), (1, 1)), 0, ("plus", ("pick", B, A), A))
        body = ("each", 5, A, ("plus", ("call", 0, (X, B)), num(1)))
        program = (picks, (((0, 1), (1, 1)), 1, body))
        told = run_flat(program, 1, [(0, 5, 1), (7, 8)])
        # each, call, pick of three lanes; plus, num, plus of two.
        self.assertEqual(told, (("fault", "beyond", 0, 1), 6, 4 + 3 + 3 + 2 * 3, 3, (1, 1)))

    def test_lanes_that_go_on_may_go_deeper(self):
        program = factorial() + ((((0, 1),), 1, ("each", 5, A, ("call", 0, (("pick", ("upto", num(9)), X),)))),)
        worths = [(9, 8)]
        self.assertEqual(run(program, 1, worths)[2], (0, 1))
        told, steps, work, taken, deepest = run_flat(program, 1, worths)
        self.assertEqual((told, deepest), (("fault", "beyond", 1, 3), (9, 1)))
        # each and num, upto, pick of two lanes; call of the other one, then of its eight calls five, of the last two.
        self.assertEqual(steps, 1 + 3 + 1 + 8 * 5 + 2)
        self.assertEqual(work, (1 + 2) + 2 + 2 * 10 + 2 + 1 + 8 * 5 + 2)
        self.assertEqual(taken, 9)

    def test_deep_leaves_out_all_lanes_at_the_call(self):
        body = ("plus", ("call", 0, (A,)), num(1))
        self.assertEqual(run_flat(only(body, 0, (0, 0)), 0, [5]), (("fault", "deep", 0, 1), 30, 30, 0, (30,)))


class Many(unittest.TestCase):
    HALF = only(("if", ("less", A, num(5)), ("times", A, num(2)), ("pick", B, A)), 0, (0, 0), (1, 1))

    def test_of_none(self):
        self.assertEqual(run_all(self.HALF, 0, []), ([], 0, 0, 0, (0,)))
        program = factorial() + (((), 0, num(1)),)
        self.assertEqual(run_all(program, 1, []), ([], 0, 0, 0, (0, 0)))

    def test_of_one(self):
        for worths in ([2, ()], [6, ()], [6, FORTY]):
            told, *counted = run_flat(self.HALF, 0, worths)
            self.assertEqual(run_all(self.HALF, 0, [worths]), ([told], *counted))

    def test_of_several(self):
        # less, num, if; num, times; pick.
        self.assertEqual(run_all(self.HALF, 0, [[2, ()], [3, ()]]), ([("worth", 4), ("worth", 6)], 5, 10, 4, (1,)))
        many = [[2, ()], [6, FORTY], [3, ()], [7, FORTY[::-1]]]
        told = [("worth", 4), ("worth", 6), ("worth", 6), ("worth", 32)]
        self.assertEqual(run_all(self.HALF, 0, many), (told, 6, 4 * 3 + 2 * 2 + 2, 2 * 4, (1,)))

    def test_some_of_which_fault(self):
        program = only(("plus", ("pick", B, A), num(1)), 0, (0, 0), (1, 1))
        many = [[0, ()], [1, (5, 6)], [2, (1, 2)], [0, (9,)]]
        fault = ("fault", "beyond", 0, 1)
        self.assertEqual(run_all(program, 0, many), ([fault, ("worth", 7), fault, ("worth", 10)], 3, 4 + 2 + 2, 0, (1,)))
        self.assertEqual(run_all(program, 0, many[::2]), ([fault, fault], 1, 2, 0, (1,)))

    def test_rows_of_all_depths(self):
        for depth, worths in enumerate(((1, 2), ((), (1,)), (((1, 2), ()), ()), ((), (((1,), ()), ((2, 3),))))):
            program = only(A, depth, (0, depth))
            self.assertEqual(run_all(program, 0, [[worth] for worth in worths]),
                             ([("worth", worth) for worth in worths], 0, 0, 0, (1,)))

    def test_items_of_several_lists_are_lanes_of_one_block(self):
        program = only(("each", 5, A, ("plus", X, B)), 1, (0, 1), (1, 0))
        told = run_all(program, 0, [[(1, 2), 10], [(), 20], [(3,), 30]])
        self.assertEqual(told, ([("worth", (11, 12)), ("worth", ()), ("worth", (33,))], 2, 3 + 3 + 3, 3, (1,)))

    def test_a_function_without_params(self):
        program = only(("sum", ("upto", num(4))))
        self.assertEqual(run_all(program, 0, [[], [], []]), ([("worth", 6)] * 3, 3, 3 * 11, 0, (1,)))
        self.assertEqual(run_all(program, 0, [[]]), ([("worth", 6)], 3, 11, 0, (1,)))
        self.assertEqual(run_all(program, 0, []), ([], 0, 0, 0, (0,)))

    def test_each_told_as_alone_by_at_least_as_many_steps(self):
        many = [[n] for n in (0, 5, 29, 30, 3, 10006)]
        told, steps, work, taken, deepest = run_all(going_down(), 0, many)
        for lane, worths in enumerate(many):
            self.assertEqual(told[lane], run(going_down(), 0, worths)[0])
            self.assertLessEqual(run_flat(going_down(), 0, worths)[1], steps)
        self.assertEqual(steps, 30 * 4 + 4)

    def test_steps_of_lists_that_part_are_those_of_both_ways(self):
        alone = [run_flat(self.HALF, 0, worths)[1] for worths in ([2, ()], [6, FORTY])]
        self.assertEqual(alone, [5, 4])
        self.assertEqual(run_all(self.HALF, 0, [[2, ()], [6, FORTY]])[1], 6)


class Refusals(unittest.TestCase):
    PROGRAM = (((), 0, num(1)), (((5, 0), (6, 1), (7, 3)), 0, name(5)))

    def number(self, function, *handed):
        with self.assertRaises(BadWorth) as caught:
            function(self.PROGRAM, *handed)
        return caught.exception.number

    def test_programs_ahead_of_the_rest(self):
        for wrong, met in (((), (0, -1, "many")), (only(num(1), 4), (0, -1, "face")), (only(name(0)), (0, 0, "name")),
                           ((((), 0, num(1)), ((), 1, num(1))), (1, 0, "depth"))):
            self.assertEqual(refused(run_flat, wrong, 9, [10007]), met)
            self.assertEqual(refused(run_flat, wrong, 0, [10007]), met)
            self.assertEqual(refused(run_all, wrong, 9, [[10007]]), met)
            self.assertEqual(refused(run_all, wrong, 0, [[10007]]), met)
            self.assertEqual(refused(run_all, wrong, 9, []), met)

    def test_no_function(self):
        for which in (-2, -1, 2, 6):
            with self.assertRaises(NoFunction):
                run_flat(self.PROGRAM, which, [10007])
            for many in ([], [[]], [[10007], []]):
                with self.assertRaises(NoFunction):
                    run_all(self.PROGRAM, which, many)

    def test_worths_of_run_flat(self):
        self.assertEqual(self.number(run_flat, 0, [1]), 0)
        self.assertEqual(self.number(run_flat, 1, []), 0)
        self.assertEqual(self.number(run_flat, 1, [1, ()]), 2)
        self.assertEqual(self.number(run_flat, 1, [1, (), (), 1]), 3)
        for wrong in ([10007, (), ()], [-1, (), ()], [(), (), ()], [True, (), ()]):
            self.assertEqual(self.number(run_flat, 1, wrong), 0)
        for wrong in (5, ((),), tuple(range(41)), (10007,)):
            self.assertEqual(self.number(run_flat, 1, [1, wrong, 0]), 1)
        for wrong in (((1,),), (((10007,),),), (((),) * 41,)):
            self.assertEqual(self.number(run_flat, 1, [1, (), wrong]), 2)

    def test_the_first_list_that_has_a_bad_worth(self):
        good = [1, (), ()]
        self.assertEqual(self.number(run_all, 1, [good, [1, 5, ()], [10007, (), ()]]), 1)
        self.assertEqual(self.number(run_all, 1, [good, [1, (), 5], [1, 5, ()]]), 2)
        self.assertEqual(self.number(run_all, 1, [good, good, [1, (), (), 5]]), 3)
        self.assertEqual(self.number(run_all, 1, [[1], good, []]), 1)
        self.assertEqual(self.number(run_all, 0, [[], [], [4]]), 0)

    def test_refused_ahead_of_the_run(self):
        """Also where the first list would fault or run long."""
        program = only(("call", 0, (A,)), 0, (0, 0))
        with self.assertRaises(BadWorth):
            run_all(program, 0, [[1], [10007]])


class Kept(unittest.TestCase):
    BODY = ("put", ("sums", A), ("each", 5, A, ("plus", X, B)))
    PROGRAM = only(BODY, 1, (0, 1), (1, 0))

    def test_what_is_handed_in_stays_as_it_was(self):
        many = [[(1, 2, 3), 4], [(), 5]]
        kept = copy.deepcopy((self.PROGRAM, many))
        run_all(self.PROGRAM, 0, many)
        run_flat(self.PROGRAM, 0, many[0])
        self.assertEqual((self.PROGRAM, many), kept)
        wrong = [[(1, 2, 3), 4], [(), 5, 6]]
        with self.assertRaises(BadWorth):
            run_all(self.PROGRAM, 0, wrong)
        self.assertEqual(wrong, [[(1, 2, 3), 4], [(), 5, 6]])

    def test_asked_again_the_same_is_told(self):
        many = [[(1, 2, 3), 4], [(), 5]]
        first = run_all(self.PROGRAM, 0, many)
        kept = copy.deepcopy(first)
        first[0].append(1)
        first[0][0] = None
        run_flat(going_down(), 0, [30])
        self.assertEqual(run_all(self.PROGRAM, 0, many), kept)
        self.assertEqual(run_flat(self.PROGRAM, 0, many[0]), run_flat(self.PROGRAM, 0, many[0]))
        many[1] = [(7,), 1]
        many[0][1] = 0
        self.assertEqual(kept[0], [("worth", (0, 1, 3, 5, 6, 7)), ("worth", ())])
        self.assertEqual(run_all(self.PROGRAM, 0, many)[0], [("worth", (0, 1, 3, 1, 2, 3)), ("worth", (0, 8))])


if __name__ == "__main__":
    unittest.main()
