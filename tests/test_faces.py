"""faces: what it tells of good programs, and each refusal with its function, place and word."""

import copy
import unittest

from nestrows.errors import BadProgram
from nestrows.forms import faces
from tests.helper import OF_DEPTH, count, name, num, only, refused, spread, within

TWO_SIDED = ("plus", "minus", "times", "less", "same")

# One good expression of each sort, and its depth; name 0 is a number, name 1 a row of numbers.
PARAMS = ((0, 0), (1, 1))
SORTS = {
    "num": (num(5), 0),
    "name": (name(1), 1),
    "plus": (("plus", num(1), num(2)), 0),
    "minus": (("minus", num(1), num(2)), 0),
    "times": (("times", num(1), num(2)), 0),
    "less": (("less", num(1), num(2)), 0),
    "same": (("same", num(1), num(2)), 0),
    "if": (("if", num(1), name(1), name(1)), 1),
    "let": (("let", 3, name(1), name(3)), 1),
    "upto": (("upto", num(1)), 1),
    "len": (("len", name(1)), 0),
    "sum": (("sum", name(1)), 0),
    "sums": (("sums", name(1)), 1),
    "one": (("one", name(1)), 2),
    "pick": (("pick", name(1), num(0)), 0),
    "put": (("put", name(1), name(1)), 1),
    "flat": (("flat", ("one", name(1))), 1),
    "each": (("each", 3, name(1), name(1)), 2),
    "where": (("where", 3, name(1), name(3)), 1),
    "call": (("call", 0, (name(0), name(1))), 1),
}
NUMBERED = {"num": 10006, "name": 19, "let": 19, "each": 19, "where": 19, "call": 5}


def refusal(program):
    return refused(faces, program)


def refusal_of(body, depth=0):
    return refusal(only(body, depth, *PARAMS))


class Good(unittest.TestCase):
    def test_depths_of_params_and_what_is_told(self):
        self.assertEqual(faces(only(num(0))), [((), 0)])
        body = name(3)
        program = only(body, 3, (7, 0), (19, 1), (0, 2), (3, 3))
        self.assertEqual(faces(program), [((0, 1, 2, 3), 3)])

    def test_one_to_six_functions(self):
        functions = []
        wanted = []
        for at in range(6):
            functions.append((((at, at % 4),), at % 4, name(at)))
            wanted.append(((at % 4,), at % 4))
            told = faces(tuple(functions))
            self.assertEqual(told, wanted)
            self.assertIsInstance(told, list)
            self.assertTrue(all(isinstance(face, tuple) and isinstance(face[0], tuple) for face in told))

    def test_each_sort_has_its_depth_and_no_other(self):
        for word, (body, depth) in SORTS.items():
            for told in range(4):
                with self.subTest(word=word, told=told):
                    program = ((PARAMS, 1, name(1)), (PARAMS, told, body))
                    if told == depth:
                        self.assertEqual(faces(program), [((0, 1), 1), ((0, 1), told)])
                    else:
                        self.assertEqual(refusal(program), (1, 0, "depth"))

    def test_rows_of_each_depth(self):
        for depth, row in enumerate(OF_DEPTH):
            self.assertEqual(faces(only(row, depth)), [((), depth)])

    def test_calls_of_those_ahead_and_itself(self):
        first = (((0, 0),), 0, ("call", 0, (name(0),)))
        second = ((), 1, ("one", ("plus", ("call", 0, (num(1),)), ("call", 0, (num(2),)))))
        third = (((4, 1),), 1, ("put", ("call", 1, ()), ("call", 2, (("call", 1, ()),))))
        self.assertEqual(faces((first, second, third)), [((0,), 0), ((), 1), ((1,), 1)])

    def test_names_that_hide_others(self):
        body = ("let", 0, name(1), ("each", 0, name(0), ("let", 1, name(0), name(1))))
        self.assertEqual(faces(only(body, 1, *PARAMS)), [((0, 1), 1)])

    def test_told_anew_each_time(self):
        program = ((PARAMS, 1, name(1)), ((), 0, num(1)))
        kept = copy.deepcopy(program)
        told = faces(program)
        told.append("changed")
        told[0] = None
        self.assertEqual(faces(program), [((0, 1), 1), ((), 0)])
        self.assertEqual(program, kept)


class ManyAndFace(unittest.TestCase):
    def test_no_function(self):
        self.assertEqual(refusal(()), (0, -1, "many"))

    def test_a_seventh_function(self):
        good = ((), 0, num(1))
        self.assertIsNone(refusal((good,) * 6))
        self.assertEqual(refusal((good,) * 7), (6, -1, "many"))
        self.assertEqual(refusal((good,) * 9), (6, -1, "many"))

    def test_count_of_params(self):
        for many in range(7):
            program = only(num(1), 0, *[(x, 0) for x in range(many)])
            self.assertEqual(refusal(program), None if many <= 4 else (0, -1, "face"))

    def test_names_and_depths_of_params(self):
        for param in ((0, 0), (19, 0), (0, 3), (19, 3)):
            self.assertIsNone(refusal(only(num(1), 0, (5, 1), param)))
        for param in ((-1, 0), (20, 0), (0, -1), (0, 4), (0,), (0, 0, 0), (True, 0), (0, True)):
            for params in ((param,), ((5, 1), param), (param, (5, 1))):
                with self.subTest(params=params):
                    self.assertEqual(refusal(only(num(1), 0, *params)), (0, -1, "face"))

    def test_a_name_twice(self):
        self.assertEqual(refusal(only(num(1), 0, (2, 0), (2, 0))), (0, -1, "face"))
        self.assertEqual(refusal(only(num(1), 0, (2, 0), (3, 1), (4, 0), (2, 1))), (0, -1, "face"))

    def test_depth_told(self):
        for depth in (-1, 4, 5, True, False):
            self.assertEqual(refusal(only(num(1), depth)), (0, -1, "face"))

    def test_functions_of_three_parts(self):
        for function in ((), ((),), ((), 0), ((), 0, num(1), num(1))):
            self.assertEqual(refusal((function,)), (0, -1, "face"))

    def test_faces_of_all_functions_ahead_of_bodies(self):
        bad_body = ((), 0, name(0))
        bad_face = ((), 4, num(1))
        good = ((), 0, num(1))
        self.assertEqual(refusal((bad_body, good, bad_face, bad_face)), (2, -1, "face"))
        self.assertEqual(refusal((bad_body,) * 7), (6, -1, "many"))

    def test_many_and_face_by_functions(self):
        bad_face = ((), 4, num(1))
        good = ((), 0, num(1))
        self.assertEqual(refusal((good,) * 5 + (bad_face, good)), (5, -1, "face"))
        self.assertEqual(refusal((good,) * 6 + (bad_face,)), (6, -1, "many"))


class Size(unittest.TestCase):
    def test_number_59_and_60(self):
        self.assertEqual(count(spread(60)), 60)
        self.assertEqual(count(spread(61)), 61)
        self.assertIsNone(refusal(only(spread(60))))
        self.assertEqual(refusal(only(spread(61))), (0, 60, "size"))
        self.assertEqual(refusal((((), 0, num(1)), ((), 0, spread(62)))), (1, 60, "size"))

    def test_within_12_and_13(self):
        self.assertIsNone(refusal(only(within(12, num(1)))))
        self.assertEqual(refusal(only(("sum", within(12, ("upto", num(1)))))), (0, 13, "size"))
        self.assertEqual(refusal(only(within(400, num(1)))), (0, 13, "size"))

    def test_within_is_counted_by_each_sort(self):
        first = (PARAMS, 1, name(1))
        for word, (body, depth) in SORTS.items():
            if word in ("num", "name", "flat"):
                continue
            with self.subTest(word=word):
                # In shown the parts of the body stand within two others.
                shown = ("let", 9, num(1), body) if depth == 0 else ("len", body)
                self.assertIsNone(refusal((first, (PARAMS, 0, within(10, shown)))))
                place = 10 + 2 + 1 + (2 if depth == 0 else 1)
                beyond = within(10, ("let", 9, num(1), shown))
                self.assertEqual(refusal((first, (PARAMS, 0, beyond))), (1, place, "size"))

    def test_the_second_part_of_let_each_and_where_stands_within(self):
        for word, row in (("let", num(1)), ("each", name(1)), ("where", name(1))):
            for body, wanted in ((num(1), None), (("minus", num(1), num(1)), "size")):
                shown = (word, 9, row, body)
                shown = ("let", 9, num(1), shown) if word == "let" else ("len", shown)
                met = refusal_of(within(10, shown))
                # It is met at the first part of minus, the last but one of all expressions.
                self.assertEqual(met, wanted and (0, 10 + count(shown) - 2, wanted))

    def test_places_go_on_behind_what_stands_ahead(self):
        body = ("plus", spread(7), within(14, num(1)))
        self.assertEqual(refusal(only(body)), (0, 8 + 12, "size"))

    def test_size_ahead_of_form(self):
        self.assertEqual(refusal(only(within(14, ("none",)))), (0, 13, "size"))
        self.assertEqual(refusal(only(("plus", spread(59), ("none",)))), (0, 60, "size"))
        self.assertEqual(refusal(only(("if", num(1), spread(57), ("none",)))), (0, 59, "form"))


class Shape(unittest.TestCase):
    def test_words(self):
        for word in ("", "Num", "nums", "add", "num ", "map"):
            for body in ((word,), (word, 1), (word, num(1)), (word, num(1), num(1))):
                self.assertEqual(refusal_of(body), (0, 0, "form"))
        self.assertEqual(refusal_of(()), (0, 0, "form"))

    def test_count_of_parts_of_each_sort(self):
        for word, (body, depth) in SORTS.items():
            for wrong in (body[:-1], body + (num(1),), body[:1]):
                with self.subTest(word=word, wrong=wrong):
                    self.assertEqual(refusal_of(wrong), (0, 0, "form"))
                    self.assertEqual(refusal_of(("plus", num(1), wrong)), (0, 2, "form"))

    def test_numbers_at_their_ends(self):
        for word, last in NUMBERED.items():
            body = SORTS[word][0]
            for number in (-2, -1, last + 1, last + 2, True, False):
                with self.subTest(word=word, number=number):
                    wrong = body[:1] + (number,) + body[2:]
                    self.assertEqual(refusal_of(wrong), (0, 0, "form"))
                    self.assertEqual(refusal_of(("plus", num(1), wrong)), (0, 2, "form"))

    def test_numbers_up_to_their_ends(self):
        for n in (0, 10006):
            self.assertIsNone(refusal(only(num(n))))
        for x in (0, 19):
            self.assertIsNone(refusal(only(name(x), 0, (x, 0))))
            for word in ("let", "each", "where"):
                body = (word, x, ("upto", num(1)), ("same", num(1), num(1)))
                self.assertIsNone(refusal(only(body, 0 if word == "let" else 1)))
        functions = tuple((((0, 0),), 0, ("call", k, (name(0),))) for k in range(6))
        self.assertIsNone(refusal(functions))

    def test_form_ahead_of_parts(self):
        self.assertEqual(refusal_of(("plus", name(9))), (0, 0, "form"))
        self.assertEqual(refusal_of(("let", 20, name(9), num(1))), (0, 0, "form"))
        self.assertEqual(refusal_of(("call", 6, (name(9),))), (0, 0, "form"))


class Names(unittest.TestCase):
    def test_no_such_name(self):
        self.assertEqual(refusal(only(name(0))), (0, 0, "name"))
        self.assertEqual(refusal_of(name(2)), (0, 0, "name"))
        self.assertEqual(refusal(((((3, 0),), 0, num(1)), ((), 0, ("plus", num(1), name(3))))), (1, 2, "name"))

    def test_names_hold_in_the_second_part_only(self):
        for word in ("let", "each", "where"):
            depth = 0 if word == "let" else 1
            row = name(1)
            good = (word, 5, row, ("same", num(1), num(1)))
            self.assertIsNone(refusal_of(good, depth))
            self.assertEqual(refusal_of((word, 5, ("put", row, name(5)), num(1)), depth), (0, 3, "name"))
            behind = ("plus", ("len", (word, 5, row, ("len", ("one", name(5))))), name(5))
            if word == "let":
                behind = ("plus", ("let", 5, num(1), name(5)), name(5))
            self.assertEqual(refusal_of(behind)[2], "name")
            self.assertEqual(refusal_of(behind)[1], count(behind) - 1)

    def test_names_in_every_part_of_each_sort(self):
        for word, (body, depth) in SORTS.items():
            parts = [at for at, part in enumerate(body) if at > 0 and isinstance(part, tuple)]
            if word in ("num", "name", "call"):
                continue
            for at in parts:
                with self.subTest(word=word, at=at):
                    ahead = sum(count(part) for part in body[1:at] if isinstance(part, tuple))
                    wrong = body[:at] + (name(11),) + body[at + 1:]
                    self.assertEqual(refusal_of(wrong, depth), (0, 1 + ahead, "name"))

    def test_names_in_arguments(self):
        program = (((((0, 0), (1, 0)), 0, name(0)), ((), 0, ("call", 0, (num(1), name(0))))))
        self.assertEqual(refusal(program), (1, 2, "name"))


class Calls(unittest.TestCase):
    def test_a_later_function(self):
        good = ((), 0, num(1))
        for k in range(1, 6):
            self.assertEqual(refusal((((), 0, ("call", k, ())), good)), (0, 0, "call"))
        for at in range(5):
            functions = [good] * 6
            functions[at] = ((), 0, ("plus", num(1), ("call", at + 1, ())))
            self.assertEqual(refusal(tuple(functions)), (at, 2, "call"))

    def test_itself_a_second_time(self):
        once = ("call", 1, ())
        good = ((), 0, num(1))
        self.assertIsNone(refusal((good, ((), 0, ("plus", num(1), once)))))
        self.assertEqual(refusal((good, ((), 0, ("plus", once, once)))), (1, 2, "call"))
        self.assertEqual(refusal((good, ((), 0, ("if", num(1), once, ("plus", num(2), once))))), (1, 5, "call"))

    def test_itself_within_its_own_arguments(self):
        body = ("call", 0, (("call", 0, (num(1),)),))
        self.assertEqual(refusal(only(body, 0, (0, 0))), (0, 1, "call"))

    def test_itself_once_in_each_function(self):
        functions = tuple(((), 0, ("call", k, ())) for k in range(6))
        self.assertIsNone(refusal(functions))

    def test_another_count_of_arguments(self):
        for many in range(5):
            first = (tuple((x, 0) for x in range(many)), 0, num(1))
            for handed in range(7):
                second = ((), 0, ("plus", num(1), ("call", 0, (num(1),) * handed)))
                wanted = None if handed == many else (1, 2, "call")
                self.assertEqual(refusal((first, second)), wanted)

    def test_call_ahead_of_arguments(self):
        self.assertEqual(refusal(only(("call", 1, (name(9),)))), (0, 0, "call"))
        self.assertEqual(refusal(only(("call", 0, (name(9),)))), (0, 0, "call"))


class Depth(unittest.TestCase):
    def check(self, body_of, good, told):
        """body_of makes an expression of expressions of depths; good are the depths that it can have."""
        arity = len(next(iter(good)))
        for at in range(4 ** arity):
            depths = tuple(at // 4 ** k % 4 for k in range(arity))
            body = body_of(*[OF_DEPTH[depth] for depth in depths])
            with self.subTest(word=body[0], depths=depths):
                if depths in good:
                    self.assertIsNone(refusal(only(body, told(*depths))))
                else:
                    self.assertEqual(refusal(only(body, 0)), (0, 0, "depth"))
                    self.assertEqual(refusal(only(("len", ("one", body)), 0)), (0, 2, "depth"))

    def test_two_sided(self):
        for word in TWO_SIDED:
            self.check(lambda a, b: (word, a, b), {(0, 0)}, lambda a, b: 0)

    def test_if(self):
        good = {(0, depth, depth) for depth in range(4)}
        self.check(lambda c, a, b: ("if", c, a, b), good, lambda c, a, b: a)

    def test_let(self):
        good = {(a, b) for a in range(4) for b in range(4)}
        self.check(lambda a, b: ("let", 1, a, b), good, lambda a, b: b)

    def test_of_one_part(self):
        self.check(lambda a: ("upto", a), {(0,)}, lambda a: 1)
        self.check(lambda a: ("len", a), {(1,), (2,), (3,)}, lambda a: 0)
        self.check(lambda a: ("sum", a), {(1,)}, lambda a: 0)
        self.check(lambda a: ("sums", a), {(1,)}, lambda a: 1)
        self.check(lambda a: ("one", a), {(0,), (1,), (2,)}, lambda a: a + 1)
        self.check(lambda a: ("flat", a), {(2,), (3,)}, lambda a: a - 1)

    def test_pick_and_put(self):
        self.check(lambda a, b: ("pick", a, b), {(1, 0), (2, 0), (3, 0)}, lambda a, b: a - 1)
        self.check(lambda a, b: ("put", a, b), {(1, 1), (2, 2), (3, 3)}, lambda a, b: a)

    def test_each_and_where(self):
        good = {(a, b) for a in (1, 2, 3) for b in (0, 1, 2)}
        self.check(lambda a, b: ("each", 1, a, b), good, lambda a, b: b + 1)
        self.check(lambda a, b: ("where", 1, a, b), {(1, 0), (2, 0), (3, 0)}, lambda a, b: a)

    def test_call(self):
        for wanted in range(4):
            for told in range(4):
                first = (((0, 0), (1, wanted)), told, OF_DEPTH[told])
                for handed in range(4):
                    body = ("call", 0, (num(1), OF_DEPTH[handed]))
                    program = (first, ((), told, body))
                    self.assertEqual(refusal(program), None if handed == wanted else (1, 0, "depth"))
                self.assertEqual(refusal((first, ((), (told + 1) % 4, ("call", 0, (num(1), OF_DEPTH[wanted]))))),
                                 (1, 0, "depth"))

    def test_what_names_stand_for(self):
        for depth in range(4):
            self.assertIsNone(refusal(only(name(0), depth, (0, depth))))
            self.assertIsNone(refusal(only(("let", 0, OF_DEPTH[depth], name(0)), depth)))
        for depth in (1, 2, 3):
            self.assertIsNone(refusal(only(("each", 0, OF_DEPTH[depth], name(0)), depth)))
            kept = None if depth == 1 else (0, 0, "depth")
            self.assertEqual(refusal(only(("where", 0, OF_DEPTH[depth], name(0)), depth)), kept)

    def test_body_of_another_depth(self):
        for depth in range(4):
            for told in range(4):
                wanted = None if depth == told else (0, 0, "depth")
                self.assertEqual(refusal(only(OF_DEPTH[depth], told)), wanted)


class MetFirst(unittest.TestCase):
    """Two faults in one program."""

    def test_functions_in_order(self):
        programs = (((), 0, ("upto", num(1))), ((), 0, ("none",)))
        self.assertEqual(refusal(programs), (0, 0, "depth"))
        self.assertEqual(refusal(programs[::-1]), (0, 0, "form"))

    def test_parts_in_order(self):
        self.assertEqual(refusal_of(("plus", name(9), ("none",))), (0, 1, "name"))
        self.assertEqual(refusal_of(("plus", ("none",), name(9))), (0, 1, "form"))
        self.assertEqual(refusal_of(("plus", ("sum", num(1)), name(9))), (0, 1, "depth"))
        self.assertEqual(refusal_of(("plus", name(9), ("sum", num(1)))), (0, 1, "name"))

    def test_depth_behind_the_parts(self):
        row = OF_DEPTH[1]
        for word in TWO_SIDED:
            self.assertEqual(refusal_of((word, row, name(9))), (0, 3, "name"))
        self.assertEqual(refusal_of(("if", row, num(1), name(9))), (0, 4, "name"))
        self.assertEqual(refusal_of(("pick", num(1), name(9))), (0, 2, "name"))
        self.assertEqual(refusal_of(("put", num(1), name(9))), (0, 2, "name"))
        self.assertEqual(refusal_of(("let", 3, num(1), ("sum", name(3)))), (0, 2, "depth"))
        self.assertEqual(refusal_of(("sum", ("sum", num(1)))), (0, 1, "depth"))
        first = (((0, 1), (1, 0)), 0, num(1))
        self.assertEqual(refusal((first, ((), 0, ("call", 0, (num(1), name(9)))))), (1, 2, "name"))

    def test_a_row_of_no_depth_ahead_of_the_body(self):
        for word in ("each", "where"):
            for body in (name(9), ("none",), ("call", 5, ()), OF_DEPTH[3], ("sum", num(1))):
                self.assertEqual(refusal_of((word, 3, num(1), body), 1), (0, 0, "depth"))
                self.assertEqual(refusal_of(("plus", num(1), (word, 3, name(0), body))), (0, 2, "depth"))

    def test_a_row_of_no_depth_behind_the_row_itself(self):
        for word in ("each", "where"):
            self.assertEqual(refusal_of((word, 3, name(9), name(10)), 1), (0, 1, "name"))
            self.assertEqual(refusal_of((word, 3, ("sum", num(1)), name(10)), 1), (0, 1, "depth"))

    def test_the_body_of_each_and_where_ahead_of_their_own_depth(self):
        body = ("pick", OF_DEPTH[3], name(9))
        for word in ("each", "where"):
            self.assertEqual(refusal_of((word, 3, name(1), body), 1), (0, 7, "name"))

    def test_the_depth_of_the_body_last(self):
        self.assertEqual(refusal_of(("upto", name(9))), (0, 1, "name"))
        self.assertEqual(refusal_of(("upto", ("sum", num(1)))), (0, 1, "depth"))
        self.assertEqual(refusal((((), 1, num(1)), ((), 0, ("none",)))), (0, 0, "depth"))

    def test_a_second_self_call_ahead_of_what_stands_behind(self):
        body = ("plus", ("call", 0, ()), ("plus", ("call", 0, ()), name(9)))
        self.assertEqual(refusal(only(body)), (0, 3, "call"))
        body = ("plus", ("call", 0, ()), ("plus", name(9), ("call", 0, ())))
        self.assertEqual(refusal(only(body)), (0, 3, "name"))

    def test_refused_again_the_same(self):
        program = only(("plus", num(1), name(9)))
        for time in range(3):
            with self.assertRaises(BadProgram):
                faces(program)
            self.assertEqual(refusal(program), (0, 2, "name"))


if __name__ == "__main__":
    unittest.main()
