"""steps_at_most, names_at_most, trimmed and run_trimmed, by hand."""

import copy
import unittest

from nestrows.bounds import names_at_most, run_trimmed, steps_at_most, trimmed
from nestrows.errors import BadWorth, NoFunction
from nestrows.flatcode import flat
from nestrows.machine import run_flat
from tests.helper import name, num, only, refused

A, B, C, D = name(0), name(1), name(2), name(3)
X, Y = name(5), name(6)

GOING_DOWN = only(("if", A, ("call", 0, (("minus", A, num(1)),)), num(0)), 0, (0, 0))


class Steps(unittest.TestCase):
    def test_rows_of_one_function(self):
        self.assertEqual(steps_at_most(only(A, 0, (0, 0)), [1]), [0])
        self.assertEqual(steps_at_most(only(num(3)), [1]), [1])
        self.assertEqual(steps_at_most(only(("plus", num(1), ("let", 5, num(2), X))), [1]), [3])

    def test_rows_of_blocks(self):
        body = ("if", A, ("plus", A, num(1)), ("sum", ("each", 5, ("upto", A), ("times", X, X))))
        # if; num, plus; upto, each, times, sum.
        self.assertEqual(steps_at_most(only(body, 0, (0, 0)), [1]), [7])
        body = ("each", 5, A, ("where", 6, X, ("if", Y, num(1), num(0))))
        self.assertEqual(steps_at_most(only(body, 2, (0, 2)), [1]), [5])

    def test_so_deep_times(self):
        for deep in (0, 1, 2, 7, 30, 31, 1000):
            # if, num, minus, call, num.
            self.assertEqual(steps_at_most(GOING_DOWN, [deep]), [5 * deep])

    def test_functions_that_call_those_ahead(self):
        first = (((0, 0),), 0, ("plus", A, num(1)))
        second = (((0, 0),), 0, ("times", ("call", 0, (A,)), ("call", 0, (num(3),))))
        third = (((0, 1),), 1, ("each", 5, A, ("if", X, ("call", 1, (X,)), ("call", 0, (X,)))))
        program = (first, second, third)
        # Of the second num, call, call and times; of the third each, if, call, call.
        self.assertEqual(steps_at_most(program, [1, 1, 1]), [2, 4 + 2 * 2, 4 + 8 + 2])
        self.assertEqual(steps_at_most(program, [3, 1, 1]), [6, 4 + 2 * 6, 4 + 16 + 6])
        self.assertEqual(steps_at_most(program, [1, 0, 1]), [2, 0, 4 + 0 + 2])
        self.assertEqual(steps_at_most(program, [0, 2, 5]), [0, 2 * 4, 5 * (4 + 8 + 0)])

    def test_functions_that_call_those_ahead_and_themselves(self):
        again = ("call", 1, (("minus", A, num(1)),))
        second = (((0, 0),), 0, ("if", A, ("plus", again, ("call", 0, (A,))), num(0)))
        program = GOING_DOWN + (second,)
        # if, num, minus, call of itself, call of the first, plus, num.
        self.assertEqual(steps_at_most(program, [1, 1]), [5, 7 + 5])
        self.assertEqual(steps_at_most(program, [4, 3]), [20, 3 * (7 + 20)])
        told, steps, work, taken, deepest = run_flat(program, 1, [9])
        self.assertEqual(deepest, (10, 10))
        self.assertLessEqual(steps, steps_at_most(program, list(deepest))[1])

    def test_steps_that_reach_the_bound(self):
        first = (((0, 0),), 0, ("plus", A, num(1)))
        second = (((0, 1),), 1, ("each", 5, A, ("if", X, ("call", 0, (X,)), ("times", X, X))))
        program = (first, second)
        self.assertEqual(run_flat(program, 1, [(0, 1)])[1], 6)
        self.assertEqual(steps_at_most(program, [1, 1]), [2, 6])

    def test_never_more_behind_faults_and_deep_calls(self):
        for n in (0, 1, 29, 30, 50):
            told, steps, work, taken, deepest = run_flat(GOING_DOWN, 0, [n])
            self.assertLessEqual(steps, steps_at_most(GOING_DOWN, list(deepest))[0])
        self.assertEqual(run_flat(GOING_DOWN, 0, [30])[1], 120)

    def test_kinds_and_what_is_handed_in(self):
        deepest = [2]
        told = steps_at_most(GOING_DOWN, deepest)
        self.assertIs(type(told), list)
        told.append(7)
        self.assertEqual(deepest, [2])
        self.assertEqual(steps_at_most(GOING_DOWN, deepest), [10])

    def test_refusals(self):
        self.assertEqual(refused(steps_at_most, (), []), (0, -1, "many"))
        self.assertEqual(refused(steps_at_most, only(num(1), 4), [1]), (0, -1, "face"))
        self.assertEqual(refused(steps_at_most, only(("plus", num(1), name(0))), [1]), (0, 2, "name"))


class Names(unittest.TestCase):
    PARAMS = ((0, 0), (1, 1), (2, 2), (3, 3))

    def check(self, body, depth, most):
        self.assertEqual(names_at_most(only(body, depth, *self.PARAMS)), most)

    def test_without_blocks(self):
        self.check(("plus", A, ("len", B)), 0, 0)

    def test_of_each_sort_of_block(self):
        for word in ("each", "where"):
            self.check((word, 5, B, num(1)), 1, 0)
            self.check((word, 5, B, X), 1, 0)
            self.check((word, 5, B, A), 1, 1)
            self.check((word, 5, B, ("pick", B, A)), 1, 2)
        self.check(("if", A, num(1), num(2)), 0, 0)
        self.check(("if", A, num(1), ("len", B)), 0, 1)
        self.check(("if", A, ("len", C), ("len", B)), 0, 2)

    def test_the_most_of_several(self):
        inner = ("each", 6, X, ("plus", ("plus", Y, ("len", X)), ("plus", A, ("len", D))))
        self.check(("each", 5, C, inner), 2, 3)
        self.check(("put", ("each", 5, B, A), ("each", 5, B, ("plus", A, ("len", C)))), 1, 2)
        self.check(("put", ("each", 5, B, ("plus", A, ("len", C))), ("each", 5, B, A)), 1, 2)

    def test_the_most_of_all_functions(self):
        two = (((0, 0), (1, 1)), 1, ("each", 5, B, ("plus", A, ("len", B))))
        one = (((0, 0), (1, 1)), 1, ("each", 5, B, A))
        none = ((), 0, num(1))
        for program in ((two, one, none), (one, two, none), (none, one, two)):
            self.assertEqual(names_at_most(program), 2)
        self.assertEqual(names_at_most((none, one)), 1)

    def test_taken_that_reaches_the_bound_times_the_items(self):
        program = only(("each", 5, B, ("pick", B, A)), 1, (0, 0), (1, 1))
        told, steps, work, taken, deepest = run_flat(program, 0, [0, (4,) * 40])
        self.assertEqual(taken, 80)
        self.assertLessEqual(taken, names_at_most(program) * work)

    def test_refusals(self):
        self.assertEqual(refused(names_at_most, ()), (0, -1, "many"))
        self.assertEqual(refused(names_at_most, only(("sum", num(1)))), (0, 0, "depth"))


class Trimmed(unittest.TestCase):
    PARAMS = ((0, 0), (1, 1), (2, 2))

    def check(self, body, depth, rows, told):
        self.assertEqual(trimmed(only(body, depth, *self.PARAMS)), [(rows, told)])

    def test_nothing_to_leave_out(self):
        for body, depth in ((A, 0), (("plus", A, num(1)), 0), (("each", 5, B, ("if", X, A, num(3))), 1)):
            program = only(body, depth, *self.PARAMS)
            self.assertEqual(trimmed(program), flat(program))

    def test_rows_that_are_left_out(self):
        goes = (num(4), ("plus", A, A), ("minus", A, A), ("times", A, A), ("less", A, A), ("same", A, A),
                ("len", B), ("len", C), ("sum", B), ("sums", B), ("one", A), ("one", C))
        for bound in goes:
            self.check(("let", 5, bound, A), 0, (), 0)

    def test_rows_that_must_stay(self):
        stays = (("upto", A), ("pick", B, A), ("put", B, B), ("flat", C), ("if", A, A, A), ("each", 5, B, A),
                 ("where", 5, B, A))
        for bound in stays:
            program = only(("let", 5, bound, A), 0, *self.PARAMS)
            self.assertEqual(trimmed(program), flat(program))
            self.assertEqual(len(trimmed(program)[0][0]), 1)
        program = (((), 0, num(1)), ((), 0, ("let", 5, ("call", 0, ()), num(2))))
        self.assertEqual(trimmed(program), flat(program))

    def test_one_because_another_is(self):
        self.check(("let", 5, ("plus", ("times", A, num(2)), ("len", ("one", B))), A), 0, (), 0)
        self.check(("let", 5, num(1), ("let", 6, ("plus", X, X), A)), 0, (), 0)
        body = ("let", 5, num(1), ("let", 6, ("plus", X, A), ("times", X, X)))
        self.check(body, 0, (("num", 1, 3, 1), ("times", 6, 5, 3, 3)), 5)

    def test_what_rows_that_stay_look_at_stays(self):
        body = ("let", 5, ("upto", ("plus", A, num(1))), A)
        self.check(body, 0, (("num", 4, 3, 1), ("plus", 2, 4, 0, 3), ("upto", 1, 5, 4)), 0)
        body = ("let", 5, ("len", ("upto", ("plus", A, num(1)))), A)
        self.check(body, 0, (("num", 5, 3, 1), ("plus", 3, 4, 0, 3), ("upto", 2, 5, 4)), 0)
        body = ("let", 5, ("pick", B, num(1)), A)
        self.check(body, 0, (("num", 3, 3, 1), ("pick", 1, 4, 1, 3, 1)), 0)
        first = (((0, 0), (1, 0)), 0, A)
        second = ((), 0, ("let", 5, num(8), ("let", 6, ("call", 0, (num(1), X)), num(2))))
        rows = (("num", 1, 0, 8), ("num", 4, 1, 1), ("call", 3, 2, 0, (1, 0)), ("num", 6, 3, 2))
        self.assertEqual(trimmed((first, second))[1], (rows, 3))

    def test_what_is_told_stays(self):
        self.check(("let", 5, num(3), X), 0, (("num", 1, 3, 3),), 3)
        self.check(("let", 5, num(3), ("let", 6, num(4), X)), 0, (("num", 1, 3, 3),), 3)

    def test_depths_are_no_registers(self):
        # The last of pick is the depth 1, and that of one 0; registers 0 and 1 are nums.
        body = ("let", 5, num(7), ("let", 6, num(8), ("pick", ("upto", num(3)), num(2))))
        rows = (("num", 6, 2, 3), ("upto", 5, 3, 2), ("num", 7, 4, 2), ("pick", 4, 5, 3, 4, 1))
        self.assertEqual(trimmed(only(body)), [(rows, 5)])
        body = ("let", 5, num(7), ("one", num(8)))
        self.assertEqual(trimmed(only(body, 1)), [((("num", 3, 1, 8), ("one", 2, 2, 1, 0)), 2)])
        body = ("let", 5, num(7), ("let", 6, num(8), num(1)))
        self.assertEqual(trimmed(only(body)), [((("num", 4, 2, 1),), 2)])

    def test_in_blocks(self):
        body = ("each", 5, B, ("let", 6, ("plus", X, num(2)), ("times", X, X)))
        self.check(body, 1, (("each", 0, 7, 1, 1, 3, (), (("times", 6, 6, 3, 3),), 6, 1),), 7)
        body = ("where", 5, B, ("let", 6, ("plus", X, num(2)), X))
        self.check(body, 1, (("where", 0, 6, 1, 1, 3, (), (), 3, 1),), 6)
        body = ("if", A, ("let", 6, num(2), A), ("let", 6, num(3), ("plus", A, A)))
        self.check(body, 0, (("if", 0, 6, 0, (0,), (), 0, (("plus", 7, 5, 0, 0),), 5),), 6)

    def test_in_blocks_within_blocks(self):
        inner = ("each", 6, X, ("let", 7, num(1), ("if", Y, ("let", 8, num(2), Y), num(3))))
        program = only(("each", 5, C, inner), 2, *self.PARAMS)
        # Registers: item 3, item 4, num 5, num 6, num 7, if 8, each 9, each 10.
        rows = (("each", 0, 10, 2, 2, 3, (),
                 (("each", 2, 9, 3, 1, 4, (), (("if", 6, 8, 4, (4,), (), 4, (("num", 11, 7, 3),), 7),), 8, 1),),
                 9, 2),)
        self.assertEqual(trimmed(program), [(rows, 10)])
        self.assertEqual(len(flat(program)[0][0][0][7][0][7]), 2)

    def test_in_blocks_of_rows_that_nobody_looks_at(self):
        body = ("let", 7, ("each", 5, B, ("let", 6, num(2), X)), A)
        self.check(body, 0, (("each", 1, 5, 1, 1, 3, (), (), 3, 1),), 0)

    def test_what_blocks_take_in_stays(self):
        body = ("let", 7, ("len", C), ("each", 5, B, ("let", 6, ("plus", name(7), num(2)), X)))
        # The block's own rows go, but it still takes in register 3, so the row of that one stays.
        self.check(body, 1, (("len", 1, 3, 2), ("each", 3, 7, 1, 1, 4, (3,), (), 4, 1)), 7)
        body = ("let", 7, ("len", C), ("if", A, ("let", 6, ("plus", name(7), num(2)), A), A))
        self.check(body, 0, (("len", 1, 3, 2), ("if", 3, 6, 0, (0, 3), (), 0, (), 0)), 6)

    def test_what_inner_blocks_take_in_stays(self):
        inner = ("each", 6, X, ("let", 8, ("plus", name(7), num(2)), Y))
        body = ("let", 7, ("len", C), ("each", 5, C, inner))
        rows = (
            ("len", 1, 3, 2),
            ("each", 3, 9, 2, 2, 4, (3,), (("each", 5, 8, 4, 1, 5, (3,), (), 5, 1),), 8, 2),
        )
        self.check(body, 2, rows, 9)

    def test_functions_each_by_itself(self):
        good = ((), 0, ("let", 5, num(1), num(2)))
        self.assertEqual(trimmed((good, good)), [((("num", 2, 1, 2),), 1)] * 2)

    def test_the_list_told_changed_then_asked_again(self):
        program = only(("let", 5, num(3), A), 0, *self.PARAMS)
        kept = copy.deepcopy(program)
        first = trimmed(program)
        self.assertIs(type(first), list)
        self.assertIs(type(first[0][0]), tuple)
        first[0] = None
        self.assertEqual(trimmed(program), [((), 0)])
        self.assertEqual(program, kept)

    def test_refusals(self):
        self.assertEqual(refused(trimmed, ()), (0, -1, "many"))
        self.assertEqual(refused(trimmed, only(("let", 5, name(9), num(1)))), (0, 1, "name"))


class RunTrimmed(unittest.TestCase):
    def test_the_same_told_by_fewer_steps(self):
        body = ("let", 5, ("plus", ("len", B), num(1)), ("each", 6, B, ("let", 7, ("times", Y, Y), ("plus", Y, A))))
        program = only(body, 1, (0, 0), (1, 1))
        # Of len, num, plus, each, times, plus the last plus and each are left.
        self.assertEqual(run_flat(program, 0, [3, (1, 2)])[:2], (("worth", (4, 5)), 6))
        self.assertEqual(run_trimmed(program, 0, [3, (1, 2)]), (("worth", (4, 5)), 2))

    def test_the_same_steps_where_all_is_of_use(self):
        self.assertEqual(run_trimmed(GOING_DOWN, 0, [29]), (("worth", 0), 29 * 4 + 2))
        self.assertEqual(run_trimmed(GOING_DOWN, 0, [30]), (("fault", "deep", 0, 2), 120))

    def test_faults_of_rows_that_nobody_looks_at(self):
        for bound, fault in ((("upto", num(41)), ("many", 0, 1)), (("pick", B, num(5)), ("beyond", 0, 1)),
                             (("each", 6, B, ("pick", B, num(5))), ("beyond", 0, 3))):
            program = only(("let", 5, bound, A), 0, (0, 0), (1, 1))
            told, steps = run_trimmed(program, 0, [3, (1, 2)])
            self.assertEqual(told, ("fault",) + fault)
            self.assertEqual(told, run_flat(program, 0, [3, (1, 2)])[0])

    def test_blocks_that_take_in_what_they_do_not_need(self):
        body = ("let", 7, ("len", B), ("each", 5, B, ("let", 6, ("plus", name(7), num(2)), X)))
        program = only(body, 1, (0, 0), (1, 1))
        self.assertEqual(run_trimmed(program, 0, [3, (1, 2)]), (("worth", (1, 2)), 2))

    def test_called_functions_are_trimmed_too(self):
        first = (((0, 0),), 0, ("let", 5, num(1), ("plus", A, A)))
        program = (first, ((), 0, ("call", 0, (num(4),))))
        self.assertEqual(run_flat(program, 1, [])[:2], (("worth", 8), 4))
        self.assertEqual(run_trimmed(program, 1, []), (("worth", 8), 3))

    def test_kinds(self):
        answer = run_trimmed(GOING_DOWN, 0, [1])
        self.assertIs(type(answer), tuple)
        self.assertEqual([type(part) for part in answer], [tuple, int])

    def test_refusals(self):
        bad = only(name(0))
        self.assertEqual(refused(run_trimmed, bad, 7, [10007]), (0, 0, "name"))
        self.assertEqual(refused(run_trimmed, bad, 0, [10007]), (0, 0, "name"))
        for which in (-1, 1, 6):
            with self.assertRaises(NoFunction):
                run_trimmed(GOING_DOWN, which, [10007])
        for worths, number in (([], 0), ([10007], 0), ([1, 1], 1), ([()], 0)):
            with self.assertRaises(BadWorth) as caught:
                run_trimmed(GOING_DOWN, 0, worths)
            self.assertEqual(caught.exception.number, number)

    def test_what_is_handed_in_stays_as_it_was(self):
        worths = [5]
        first = run_trimmed(GOING_DOWN, 0, worths)
        self.assertEqual(worths, [5])
        self.assertEqual(run_trimmed(GOING_DOWN, 0, worths), first)


if __name__ == "__main__":
    unittest.main()
