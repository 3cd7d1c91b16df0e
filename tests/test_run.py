"""run: what each sort of expression comes to, faults, work, deepest and refusals."""

import copy
import unittest

from nestrows.errors import BadWorth, NoFunction
from nestrows.nested import run
from tests.helper import name, num, only, refused

A, B, C, D = name(0), name(1), name(2), name(3)
FORTY = tuple(range(40))


def run_of(body, depth, *handed):
    """run of one function with params 0, 1, .. of the depths and worths that are handed in pairs."""
    params = tuple((x, pair[0]) for x, pair in enumerate(handed))
    return run(((params, depth, body),), 0, [pair[1] for pair in handed])


class Answers(unittest.TestCase):
    def check(self, body, depth, handed, worth, work=None):
        told, done, deepest = run_of(body, depth, *handed)
        self.assertEqual(told, ("worth", worth))
        self.assertEqual(deepest, (1,))
        if work is not None:
            self.assertEqual(done, work)

    def test_kinds(self):
        told, work, deepest = answer = run_of(("less", A, B), 0, (0, 1), (0, 2))
        self.assertIs(type(answer), tuple)
        self.assertIs(type(told), tuple)
        self.assertIs(type(told[1]), int)
        self.assertIs(type(work), int)
        self.assertIs(type(deepest), tuple)
        self.assertIs(type(run_of(("same", A, B), 0, (0, 1), (0, 2))[0][1]), int)

    def test_num_and_name(self):
        for n in (0, 1, 10006):
            self.check(num(n), 0, (), n, 1)
            self.check(A, 0, ((0, n),), n, 0)
        rows = (0, (5, 6), ((), (1,)), (((7,),), ()))
        for depth, worth in enumerate(rows):
            self.check(A, depth, ((depth, worth),), worth, 0)
        for at in range(4):
            handed = [(depth, rows[depth]) for depth in range(4)]
            self.check(name(at), at, handed, rows[at], 0)

    def test_reckoning_by_rests(self):
        cases = (
            ("plus", 2, 3, 5), ("plus", 10006, 0, 10006), ("plus", 10006, 1, 0), ("plus", 10006, 10006, 10005),
            ("minus", 5, 3, 2), ("minus", 3, 3, 0), ("minus", 3, 5, 10005), ("minus", 0, 10006, 1),
            ("times", 3, 4, 12), ("times", 10006, 10006, 1), ("times", 5003, 2, 10006), ("times", 5004, 2, 1),
            ("times", 0, 9, 0),
            ("less", 1, 2, 1), ("less", 2, 2, 0), ("less", 3, 2, 0), ("less", 0, 10006, 1),
            ("same", 2, 2, 1), ("same", 1, 2, 0), ("same", 2, 1, 0), ("same", 0, 0, 1),
        )
        for word, first, second, worth in cases:
            with self.subTest(word=word, first=first, second=second):
                self.check((word, A, B), 0, ((0, first), (0, second)), worth, 1)
                self.check((word, num(first), num(second)), 0, (), worth, 3)

    def test_if(self):
        for chosen, worth, work in ((0, 9, 3), (1, 8, 2), (2, 8, 2), (10006, 8, 2)):
            self.check(("if", A, num(8), ("plus", B, num(1))), 0, ((0, chosen), (0, 8)), worth, work)
        self.check(("if", A, B, C), 2, ((0, 0), (2, ((1,),)), (2, ((), ()))), ((), ()), 1)

    def test_if_leaves_the_other_one_undone(self):
        fault = ("pick", B, num(0))
        self.check(("if", A, num(1), fault), 0, ((0, 5), (1, ())), 1, 2)
        self.check(("if", A, fault, num(1)), 0, ((0, 0), (1, ())), 1, 2)

    def test_let(self):
        self.check(("let", 5, ("plus", A, num(1)), ("times", name(5), name(5))), 0, ((0, 4),), 25, 3)
        self.check(("let", 0, ("upto", A), A), 1, ((0, 3),), (0, 1, 2), 4)

    def test_let_that_hides_another(self):
        body = ("plus", ("let", 0, ("plus", A, num(1)), ("times", A, num(10))), A)
        self.check(body, 0, ((0, 4),), 54)
        self.check(("let", 0, num(1), ("let", 0, ("plus", A, num(1)), A)), 0, ((0, 4),), 2)
        self.check(("let", 0, num(1), ("plus", ("let", 0, num(5), A), A)), 0, ((0, 4),), 6)

    def test_upto(self):
        for many in (0, 1, 3, 40):
            self.check(("upto", A), 1, ((0, many),), tuple(range(many)), 1 + many)

    def test_len(self):
        self.check(("len", A), 0, ((1, ()),), 0, 1)
        self.check(("len", A), 0, ((1, FORTY),), 40, 1)
        self.check(("len", A), 0, ((2, ((), (1, 2))),), 2, 1)
        self.check(("len", A), 0, ((3, ((), ((), ()), ())),), 3, 1)

    def test_sum_and_sums(self):
        cases = (
            ((), 0, ()), ((7,), 7, (0,)), ((1, 2, 3), 6, (0, 1, 3)),
            ((10006, 10006, 5), 3, (0, 10006, 10005)),
            ((10006,) * 40, 40 * 10006 % 10007, tuple(k * 10006 % 10007 for k in range(40))),
            ((10006, 1, 2), 2, (0, 10006, 0)),
        )
        for row, total, sums in cases:
            self.check(("sum", A), 0, ((1, row),), total, 1 + len(row))
            self.check(("sums", A), 1, ((1, row),), sums, 1 + len(row))

    def test_one(self):
        self.check(("one", A), 1, ((0, 5),), (5,), 2)
        self.check(("one", A), 2, ((1, ()),), ((),), 2)
        self.check(("one", A), 3, ((2, ((1, 2), ())),), (((1, 2), ()),), 2)

    def test_pick(self):
        for at in (0, 1, 39):
            self.check(("pick", A, B), 0, ((1, FORTY[::-1]), (0, at)), 39 - at, 1)
        self.check(("pick", A, B), 1, ((2, ((1,), (2, 3))), (0, 1)), (2, 3), 1)
        self.check(("pick", A, B), 2, ((3, (((1,),), ())), (0, 0)), ((1,),), 1)

    def test_put(self):
        self.check(("put", A, B), 1, ((1, ()), (1, ())), (), 1)
        self.check(("put", A, B), 1, ((1, (1, 2)), (1, (3,))), (1, 2, 3), 4)
        self.check(("put", A, B), 1, ((1, ()), (1, FORTY)), FORTY, 41)
        self.check(("put", A, B), 1, ((1, FORTY[:17]), (1, FORTY[17:])), FORTY, 41)
        self.check(("put", A, B), 2, ((2, ((1, 2), ())), (2, ((3,),))), ((1, 2), (), (3,)), 4)
        self.check(("put", A, B), 3, ((3, ()), (3, (((),),))), (((),),), 2)

    def test_flat(self):
        self.check(("flat", A), 1, ((2, ()),), (), 1)
        self.check(("flat", A), 1, ((2, ((), (), ())),), (), 1)
        self.check(("flat", A), 1, ((2, ((1, 2), (), (3,))),), (1, 2, 3), 4)
        self.check(("flat", A), 1, ((2, (FORTY[:39], (), (39,))),), FORTY, 41)
        self.check(("flat", A), 2, ((3, (((1,), ()), (), ((2, 3),))),), ((1,), (), (2, 3)), 4)

    def test_each(self):
        self.check(("each", 5, A, ("plus", name(5), name(5))), 1, ((1, (1, 2, 9)),), (2, 4, 18), 1 + 3 + 3)
        self.check(("each", 5, A, num(7)), 1, ((1, ()),), (), 1)
        self.check(("each", 5, A, ("len", name(5))), 1, ((2, ((), (4, 4))),), (0, 2), 1 + 2 + 2)
        self.check(("each", 5, A, ("upto", name(5))), 2, ((1, (0, 2, 1)),), ((), (0, 1), (0,)), 1 + 3 + 3 + 3)
        self.check(("each", 5, A, name(5)), 1, ((1, FORTY),), FORTY, 41)

    def test_each_to_depth_3(self):
        body = ("each", 5, ("upto", A), ("each", 6, ("upto", name(5)), ("upto", name(6))))
        self.check(body, 3, ((0, 3),), ((), ((),), ((), (0,))), 4 + 4 + (1 + 2 + 3) + (1 + 2 + 3) + 1 + (1 + 2))

    def test_where(self):
        body = ("where", 5, A, ("less", name(5), B))
        self.check(body, 1, ((1, (5, 1, 9, 3)), (0, 5)), (1, 3), 1 + 4 + 4)
        self.check(body, 1, ((1, (5, 1)), (0, 0)), (), 1 + 2 + 2)
        self.check(body, 1, ((1, ()), (0, 5)), (), 1)
        self.check(("where", 5, A, name(5)), 1, ((1, (0, 2, 0, 10006)),), (2, 10006), 5)
        self.check(("where", 5, A, ("len", name(5))), 2, ((2, ((), (0,), ())),), ((0,),), 7)
        self.check(("where", 5, A, ("len", name(5))), 3, ((3, ((), ((),), ())),), (((),),), 7)

    def test_item_names_that_hide_others(self):
        body = ("plus", ("sum", ("each", 0, B, ("plus", A, num(1)))), A)
        self.check(body, 0, ((0, 100), (1, (1, 2))), 105)
        body = ("each", 0, A, ("sum", ("each", 0, A, ("plus", A, num(1)))))
        self.check(body, 1, ((2, ((1, 2), (3,))),), (5, 4))
        self.check(("where", 0, A, ("less", A, num(3))), 1, ((1, (1, 5, 2)),), (1, 2))
        body = ("each", 5, B, ("plus", ("let", 5, ("plus", name(5), A), ("times", name(5), num(10))), name(5)))
        self.check(body, 1, ((0, 1), (1, (1, 2))), (21, 32))

    def test_blocks_see_names_from_outside(self):
        body = ("each", 5, B, ("each", 6, B, ("plus", A, ("times", name(5), name(6)))))
        self.check(body, 2, ((0, 7), (1, (1, 2))), ((8, 9), (9, 11)))


def factorial():
    body = ("if", A, ("times", A, ("call", 0, (("minus", A, num(1)),))), num(1))
    return only(body, 0, (0, 0))


def going_down():
    """Tells 0 by calls of itself: run of n has n + 1 calls within one another."""
    body = ("if", A, ("call", 0, (("minus", A, num(1)),)), num(0))
    return only(body, 0, (0, 0))


class Calls(unittest.TestCase):
    def test_functions_that_call_themselves(self):
        # Each call but the last does if, times, call, minus and num; the last if and num.
        self.assertEqual(run(factorial(), 0, [5]), (("worth", 120), 5 * 5 + 2, (6,)))

    def test_functions_that_call_those_ahead(self):
        double = (((3, 0),), 0, ("plus", name(3), name(3)))
        program = (double, (((0, 0),), 0, ("call", 0, (("call", 0, (A,)),))), ((), 0, ("call", 1, (num(5),))))
        self.assertEqual(run(program, 0, [7]), (("worth", 14), 1, (1, 0, 0)))
        self.assertEqual(run(program, 1, [7]), (("worth", 28), 4, (1, 1, 0)))
        self.assertEqual(run(program, 2, []), (("worth", 20), 6, (1, 1, 1)))

    def test_arguments_come_to_params_in_order(self):
        first = (((9, 0), (2, 1), (5, 0)), 0, ("minus", ("pick", name(2), name(5)), name(9)))
        program = (first, ((), 0, ("call", 0, (num(3), ("upto", num(20)), num(12)))))
        self.assertEqual(run(program, 1, [])[0], ("worth", 9))
        self.assertEqual(run(program, 0, [3, (10, 20), 1])[0], ("worth", 17))

    def test_functions_do_not_see_their_callers_names(self):
        first = (((0, 0),), 0, ("let", 1, num(50), ("plus", A, B)))
        second = (((0, 0), (1, 0)), 0, ("plus", ("call", 0, (B,)), ("plus", A, B)))
        self.assertEqual(run((first, second), 1, [1, 2])[0], ("worth", 55))

    def test_calls_in_items(self):
        program = factorial() + ((((0, 1),), 1, ("each", 1, A, ("call", 0, (B,)))),)
        told, work, deepest = run(program, 1, [(3, 0, 4)])
        self.assertEqual(told, ("worth", (6, 1, 24)))
        self.assertEqual(work, 1 + 3 + 3 + (17 + 2 + 22))
        self.assertEqual(deepest, (5, 1))

    def test_the_30th_call_and_the_31st(self):
        self.assertEqual(run(going_down(), 0, [29]), (("worth", 0), 29 * 4 + 2, (30,)))
        # Thirty calls do if, minus, num and call; the last of these calls faults.
        self.assertEqual(run(going_down(), 0, [30]), (("fault", "deep", 0, 2), 30 * 4, (30,)))
        self.assertEqual(run(going_down(), 0, [10006]), (("fault", "deep", 0, 2), 30 * 4, (30,)))

    def test_calls_behind_one_another_are_not_within(self):
        program = going_down() + (((), 1, ("each", 0, ("upto", num(40)), ("call", 0, (num(29),)))),)
        self.assertEqual(run(program, 1, [])[0], ("worth", (0,) * 40))
        self.assertEqual(run(program, 1, [])[2], (30, 1))

    def test_deep_is_of_the_function_in_which_the_call_stands(self):
        program = going_down() + ((((0, 0),), 0, ("plus", num(1), ("call", 0, (A,)))),)
        self.assertEqual(run(program, 1, [29])[0], ("worth", 1))
        self.assertEqual(run(program, 1, [30]), (("fault", "deep", 0, 2), 2 + 30 * 4, (30, 1)))

    def test_deepest_is_the_most_of_all(self):
        pair = ("plus", ("call", 0, (A,)), ("call", 0, (B,)))
        program = going_down() + ((((0, 0), (1, 0)), 0, pair),)
        self.assertEqual(run(program, 1, [7, 3])[2], (8, 1))
        self.assertEqual(run(program, 1, [3, 7])[2], (8, 1))

    def test_deepest_of_functions_that_were_not_called(self):
        good = ((), 0, num(1))
        chosen = (((0, 0),), 0, ("if", A, ("call", 1, ()), ("call", 2, ())))
        program = (good, good, good, chosen, good)
        self.assertEqual(run(program, 3, [1])[2], (0, 1, 0, 1, 0))
        self.assertEqual(run(program, 3, [0])[2], (0, 0, 1, 1, 0))
        self.assertEqual(run(program, 4, [])[2], (0, 0, 0, 0, 1))

    def test_all_six_thirty_deep_within_many_expressions(self):
        """Calls and expressions within one another in their thousands."""
        functions = []
        for k in range(6):
            again = ("call", k, (("minus", A, num(1)),))
            for level in range(4):
                again = ("sum", ("one", again))
            below = num(1) if k == 0 else ("call", k - 1, (num(29),))
            functions.append((((0, 0),), 0, ("if", A, again, below)))
        program = tuple(functions)
        told, work, deepest = run(program, 5, [29])
        self.assertEqual(told, ("worth", 1))
        self.assertEqual(deepest, (30,) * 6)
        # Of 29 calls each does if, four sums (2), four ones (2), call, minus, num; the 30th if, call, num, or if, num.
        self.assertEqual(work, 6 * 29 * 20 + 5 * 3 + 2)
        self.assertEqual(run(program, 5, [30]), (("fault", "deep", 5, 10), 30 * 4, (0, 0, 0, 0, 0, 30)))


class Faults(unittest.TestCase):
    def check(self, body, depth, handed, fault, work):
        self.assertEqual(run_of(body, depth, *handed), (("fault",) + fault, work, (1,)))

    def test_many(self):
        for many in (41, 42, 10006):
            self.check(("upto", A), 1, ((0, many),), ("many", 0, 0), 1)
        self.check(("put", A, B), 1, ((1, FORTY), (1, (1,))), ("many", 0, 0), 1)
        self.check(("put", A, B), 1, ((1, (1,)), (1, FORTY)), ("many", 0, 0), 1)
        self.check(("put", A, A), 2, ((2, ((),) * 21),), ("many", 0, 0), 1)
        self.check(("flat", A), 1, ((2, (FORTY, (), (1,))),), ("many", 0, 0), 1)
        self.check(("flat", A), 1, ((2, (FORTY,) * 40),), ("many", 0, 0), 1)
        self.check(("flat", A), 2, ((3, (((),) * 40, ((),))),), ("many", 0, 0), 1)

    def test_beyond(self):
        self.check(("pick", A, B), 0, ((1, ()), (0, 0)), ("beyond", 0, 0), 1)
        self.check(("pick", A, B), 0, ((1, (5, 6)), (0, 2)), ("beyond", 0, 0), 1)
        self.check(("pick", A, B), 0, ((1, FORTY), (0, 40)), ("beyond", 0, 0), 1)
        self.check(("pick", A, B), 1, ((2, ((1, 2),)), (0, 10006)), ("beyond", 0, 0), 1)

    def test_place(self):
        body = ("plus", ("plus", num(1), num(2)), ("pick", ("upto", num(2)), num(2)))
        self.check(body, 0, (), ("beyond", 0, 4), 3 + 4 + 1 + 1)

    def test_first_by_the_order_of_parts(self):
        many, beyond = ("len", ("upto", num(41))), ("pick", ("upto", num(0)), num(0))
        for word in ("plus", "minus", "times", "less", "same"):
            self.check((word, many, beyond), 0, (), ("many", 0, 2), 2)
            self.check((word, beyond, many), 0, (), ("beyond", 0, 1), 4)
        self.check(("if", many, beyond, beyond), 0, (), ("many", 0, 2), 2)
        self.check(("let", 0, many, beyond), 0, (), ("many", 0, 2), 2)
        self.check(("let", 0, num(1), beyond), 0, (), ("beyond", 0, 2), 1 + 2 + 2)
        self.check(("put", ("upto", num(41)), ("one", beyond)), 1, (), ("many", 0, 1), 2)
        self.check(("put", ("one", beyond), ("upto", num(41))), 1, (), ("beyond", 0, 2), 4)
        self.check(("pick", ("upto", num(41)), beyond), 0, (), ("many", 0, 1), 2)
        self.check(("pick", ("upto", num(0)), many), 0, (), ("many", 0, 4), 2 + 2)

    def test_parts_fault_ahead_of_what_is_done_with_them(self):
        self.check(("pick", ("upto", num(0)), ("pick", A, num(1))), 0, ((1, (9,)),), ("beyond", 0, 3), 2 + 2)

    def test_first_item_that_faults(self):
        body = ("each", 5, A, ("pick", ("upto", name(5)), num(1)))
        # Each item does upto (1 and items), num and pick; the third ends the run.
        self.check(body, 1, ((1, (2, 3, 1, 41)),), ("beyond", 0, 2), 1 + 4 + (3 + 2) + (4 + 2) + (2 + 2))
        self.check(body, 1, ((1, (2, 41, 1)),), ("many", 0, 3), 1 + 3 + 5 + 1)
        kept = ("where", 5, A, ("pick", ("upto", name(5)), num(1)))
        self.check(kept, 1, ((1, (2, 41, 1)),), ("many", 0, 3), 1 + 3 + 5 + 1)

    def test_blocks_are_counted_as_they_begin(self):
        fault = ("pick", A, num(0))
        self.check(("if", num(1), fault, num(1)), 0, ((1, ()),), ("beyond", 0, 2), 1 + 1 + 2)
        self.check(("if", num(0), num(1), fault), 0, ((1, ()),), ("beyond", 0, 3), 1 + 1 + 2)
        self.check(("each", 5, B, fault), 1, ((1, ()), (1, FORTY)), ("beyond", 0, 2), 41 + 2)
        self.check(("where", 5, B, fault), 1, ((1, ()), (1, FORTY)), ("beyond", 0, 2), 41 + 2)
        self.check(("plus", num(1), ("plus", fault, num(1))), 0, ((1, ()),), ("beyond", 0, 3), 1 + 2)

    def test_blocks_whose_row_faults_are_not_counted(self):
        for word in ("each", "where"):
            self.check((word, 5, ("upto", num(50)), num(1)), 1, (), ("many", 0, 1), 2)
        self.check(("if", ("pick", A, num(0)), num(1), num(2)), 0, ((1, ()),), ("beyond", 0, 1), 2)

    def test_in_a_called_function(self):
        first = (((0, 1),), 0, ("plus", num(1), ("pick", A, num(3))))
        second = (((0, 0),), 0, ("plus", ("call", 0, (("upto", A),)), ("pick", ("upto", num(0)), num(0))))
        program = (first, second, ((), 0, num(1)))
        self.assertEqual(run(program, 1, [3]), (("fault", "beyond", 0, 2), 4 + 1 + 3, (1, 1, 0)))
        self.assertEqual(run(program, 1, [4]), (("fault", "beyond", 1, 4), 5 + 1 + 4 + 4, (1, 1, 0)))

    def test_arguments_fault_in_the_caller_ahead_of_the_call(self):
        program = (((((0, 1),), 0, ("len", A)), ((), 0, ("call", 0, (("upto", num(41)),)))))
        self.assertEqual(run(program, 1, []), (("fault", "many", 1, 1), 2, (0, 1)))

    def test_arguments_in_order(self):
        many, beyond = ("len", ("upto", num(41))), ("pick", ("upto", num(0)), num(0))
        first = (((0, 0), (1, 0)), 0, num(1))
        self.assertEqual(run((first, ((), 0, ("call", 0, (many, beyond)))), 1, [])[0], ("fault", "many", 1, 2))
        self.assertEqual(run((first, ((), 0, ("call", 0, (beyond, many)))), 1, [])[0], ("fault", "beyond", 1, 1))

    def test_arguments_ahead_of_deep(self):
        body = ("call", 0, (("pick", ("upto", A), num(0)),))
        self.assertEqual(run_of(body, 0, (0, 5))[0], ("fault", "beyond", 0, 1))
        self.assertEqual(run_of(("call", 0, (A,)), 0, (0, 5)), (("fault", "deep", 0, 0), 30, (30,)))


class Refusals(unittest.TestCase):
    PROGRAM = (((), 0, num(1)), (((5, 0), (6, 1), (7, 3)), 0, name(5)))

    def number(self, which, worths):
        with self.assertRaises(BadWorth) as caught:
            run(self.PROGRAM, which, worths)
        return caught.exception.number

    def test_programs(self):
        self.assertEqual(refused(run, (), 0, []), (0, -1, "many"))
        self.assertEqual(refused(run, only(name(0)), 0, []), (0, 0, "name"))
        program = (((), 0, num(1)), ((), 1, num(1)))
        self.assertEqual(refused(run, program, 0, []), (1, 0, "depth"))

    def test_programs_ahead_of_the_rest(self):
        self.assertEqual(refused(run, only(name(0)), 5, [10007]), (0, 0, "name"))

    def test_no_function(self):
        for which in (-2, -1, 2, 3, 6):
            with self.assertRaises(NoFunction):
                run(self.PROGRAM, which, [])

    def test_no_function_ahead_of_worths(self):
        with self.assertRaises(NoFunction):
            run(self.PROGRAM, 2, [10007])

    def test_worths_at_their_ends(self):
        for good in ([0, (), ()], [10006, FORTY, ((), ((),))], [1, (10006,) * 40, (((0,) * 40,) * 40,) * 40]):
            self.assertEqual(run(self.PROGRAM, 1, good)[0], ("worth", good[0]))

    def test_worths_that_can_not_be(self):
        for wrong in (-1, 10007, 20000, (), (1,), True):
            self.assertEqual(self.number(1, [wrong, (), ()]), 0)
        for wrong in (0, 5, (-1,), (0, 10007), ((),), (1, (2,)), tuple(range(41)), (False,)):
            self.assertEqual(self.number(1, [1, wrong, ()]), 1)
        for wrong in (0, (0,), ((0,),), ((((),),),), ((), ((), (1, -1))), ((), ((), ((),))),
                      ((),) * 41, (((),) * 41,), (((0,) * 41,),), (((), (10007,)),)):
            self.assertEqual(self.number(1, [1, (), wrong]), 2)

    def test_worths_that_lack(self):
        self.assertEqual(self.number(1, []), 0)
        self.assertEqual(self.number(1, [1]), 1)
        self.assertEqual(self.number(1, [1, ()]), 2)

    def test_worths_that_are_too_much(self):
        self.assertEqual(self.number(0, [1]), 0)
        self.assertEqual(self.number(0, [1, 2]), 0)
        self.assertEqual(self.number(1, [1, (), (), 4]), 3)
        self.assertEqual(self.number(1, [1, (), (), 10007, 5]), 3)

    def test_the_first_of_several(self):
        self.assertEqual(self.number(1, [10007, 0, 0]), 0)
        self.assertEqual(self.number(1, [1, 0]), 1)
        self.assertEqual(self.number(1, [1, 0, (), 5]), 1)
        self.assertEqual(self.number(1, [-1]), 0)


class Kept(unittest.TestCase):
    BODY = ("put", ("sums", A), ("each", 5, A, ("plus", name(5), B)))

    def test_what_is_handed_in_stays_as_it_was(self):
        program = only(self.BODY, 1, (0, 1), (1, 0))
        worths = [(1, 2, 3), 4]
        kept = copy.deepcopy((program, worths))
        run(program, 0, worths)
        self.assertEqual((program, worths), kept)
        wrong = [(1, 2, 3), 4, 5]
        with self.assertRaises(BadWorth):
            run(program, 0, wrong)
        self.assertEqual(wrong, [(1, 2, 3), 4, 5])

    def test_asked_again_the_same_is_told(self):
        program = only(self.BODY, 1, (0, 1), (1, 0))
        worths = [(1, 2, 3), 4]
        first = run(program, 0, worths)
        run(program, 0, [(9, 9), 1])
        run(going_down(), 0, [30])
        self.assertEqual(run(program, 0, worths), first)
        self.assertEqual(first[0], ("worth", (0, 1, 3, 5, 6, 7)))

    def test_what_was_handed_in_may_be_changed_later(self):
        program = only(self.BODY, 1, (0, 1), (1, 0))
        worths = [(1, 2, 3), 4]
        first = run(program, 0, worths)
        worths[1] = 0
        worths.append(7)
        self.assertEqual(first[0], ("worth", (0, 1, 3, 5, 6, 7)))
        self.assertEqual(run(program, 0, [(1, 2, 3), 4]), first)


if __name__ == "__main__":
    unittest.main()
