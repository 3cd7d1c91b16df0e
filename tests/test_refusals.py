"""What holds for every function that is handed a program: refusals first, and nothing changed or kept."""

import copy
import unittest

from nestrows.bounds import names_at_most, run_trimmed, steps_at_most, trimmed
from nestrows.errors import BadWorth, NoFunction
from nestrows.flatcode import flat
from nestrows.forms import faces
from nestrows.machine import run_all, run_flat
from nestrows.nested import run
from nestrows.notes import written
from tests.helper import name, num, only, refused, spread, within

GOOD = ((), 0, num(1))

# A program for each word, and for each place at which it can be met.
BAD = (
    ((), (0, -1, "many")),
    ((GOOD,) * 7, (6, -1, "many")),
    ((GOOD, ((), 4, num(1))), (1, -1, "face")),
    (only(num(1), 0, (20, 0)), (0, -1, "face")),
    (only(spread(61)), (0, 60, "size")),
    (only(within(14, num(1))), (0, 13, "size")),
    (only(("none", num(1))), (0, 0, "form")),
    (only(("plus", num(1), num(10007))), (0, 2, "form")),
    (only(("plus", num(1), name(4))), (0, 2, "name")),
    ((GOOD, ((), 0, ("call", 2, ()))), (1, 0, "call")),
    (only(("plus", ("call", 0, ()), ("call", 0, ()))), (0, 2, "call")),
    ((GOOD, ((), 0, ("sum", ("call", 0, ())))), (1, 0, "depth")),
    (only(("len", ("each", 3, num(1), name(9)))), (0, 1, "depth")),
    ((((), 1, num(1)), GOOD), (0, 0, "depth")),
)

OF_A_PROGRAM = (faces, flat, names_at_most, trimmed, written)
OF_WORTHS = (run, run_flat, run_trimmed)


class Refusals(unittest.TestCase):
    def test_programs_that_can_not_be(self):
        for program, met in BAD:
            for function in OF_A_PROGRAM:
                self.assertEqual(refused(function, program), met, function)
            self.assertEqual(refused(steps_at_most, program, [1] * len(program)), met)

    def test_programs_ahead_of_all_else(self):
        for program, met in BAD:
            for which in (0, 5, -1, 9):
                for function in OF_WORTHS:
                    self.assertEqual(refused(function, program, which, []), met, function)
                    self.assertEqual(refused(function, program, which, [10007, ()]), met, function)
                for many in ([], [[]], [[10007], [()]]):
                    self.assertEqual(refused(run_all, program, which, many), met)

    def test_functions_ahead_of_worths(self):
        program = only(name(0), 0, (0, 0))
        for which in (-1, 1, 6):
            for function in OF_WORTHS:
                with self.assertRaises(NoFunction):
                    function(program, which, [10007])
            for many in ([], [[]], [[10007]]):
                with self.assertRaises(NoFunction):
                    run_all(program, which, many)

    def test_worths_last(self):
        program = only(name(0), 0, (0, 0), (1, 2))
        for worths, number in (([], 0), ([1], 1), ([10007, ()], 0), ([1, (1,)], 1), ([1, (), 1], 2)):
            for function in OF_WORTHS:
                with self.assertRaises(BadWorth) as caught:
                    function(program, 0, worths)
                self.assertEqual(caught.exception.number, number)
            with self.assertRaises(BadWorth) as caught:
                run_all(program, 0, [[1, ()], worths])
            self.assertEqual(caught.exception.number, number)

    def test_refused_again_the_same(self):
        for program, met in BAD:
            kept = copy.deepcopy(program)
            for function in OF_A_PROGRAM:
                refused(function, program)
                self.assertEqual(refused(function, program), met)
            self.assertEqual(program, kept)


class Kept(unittest.TestCase):
    FIRST = (((0, 0),), 0, ("if", name(0), ("call", 0, (("minus", name(0), num(1)),)), num(4)))
    SECOND = (((0, 2), (1, 0)), 2, ("each", 5, name(0), ("let", 6, num(1), ("each", 7, name(5), ("call", 0, (name(1),))))))
    PROGRAM = (FIRST, SECOND)
    WORTHS = [((1, 2), ()), 3]

    def asked(self):
        """Each function, and what it is handed anew each time."""
        for function in OF_A_PROGRAM:
            yield function, [copy.deepcopy(self.PROGRAM)]
        yield steps_at_most, [copy.deepcopy(self.PROGRAM), [2, 1]]
        for function in OF_WORTHS:
            yield function, [copy.deepcopy(self.PROGRAM), 1, copy.deepcopy(self.WORTHS)]
        yield run_all, [copy.deepcopy(self.PROGRAM), 1, [copy.deepcopy(self.WORTHS), [(), 30]]]

    def test_what_is_handed_in_stays_as_it_was(self):
        for function, handed in self.asked():
            kept = copy.deepcopy(handed)
            function(*handed)
            self.assertEqual(handed, kept, function)

    def test_asked_again_the_same_is_told(self):
        first = [function(*handed) for function, handed in self.asked()]
        second = [function(*handed) for function, handed in reversed(list(self.asked()))]
        self.assertEqual(first, second[::-1])

    def test_what_is_told_may_be_changed(self):
        for function, handed in self.asked():
            told = function(*handed)
            kept = copy.deepcopy(told)
            for part in (told, told[0] if isinstance(told, tuple) else None):
                if isinstance(part, list):
                    part[0] = None
                    part.append(99)
            self.assertEqual(function(*handed), kept, function)

    def test_what_was_handed_in_may_be_changed_later(self):
        many = [[((1, 2), ()), 3]]
        told = run_all(self.PROGRAM, 1, many)
        kept = copy.deepcopy(told)
        many[0][0] = ()
        many.append([(), 1])
        self.assertEqual(told, kept)
        deepest = [2, 1]
        steps = steps_at_most(self.PROGRAM, deepest)
        deepest[0] = 5
        self.assertNotEqual(steps_at_most(self.PROGRAM, deepest), steps)


if __name__ == "__main__":
    unittest.main()
