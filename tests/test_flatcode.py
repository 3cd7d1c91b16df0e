"""flat: the rows of each sort of expression, their registers, and what blocks take in."""

import copy
import unittest

from nestrows.flatcode import flat
from tests.helper import name, num, only, refused

# Params of the depths 0 to 3, in registers 0 to 3, with names unlike these.
PARAMS = ((10, 0), (11, 1), (12, 2), (13, 3))
A, B, C, D = name(10), name(11), name(12), name(13)


class Sorts(unittest.TestCase):
    def check(self, body, depth, rows, told):
        self.assertEqual(flat(only(body, depth, *PARAMS)), [(rows, told)])

    def test_num(self):
        for n in (0, 7, 10006):
            self.check(num(n), 0, (("num", 0, 4, n),), 4)

    def test_name_makes_no_row(self):
        for depth, (x, _) in enumerate(PARAMS):
            self.check(name(x), depth, (), depth)

    def test_let_makes_no_row(self):
        self.check(("let", 5, B, name(5)), 1, (), 1)
        self.check(("let", 5, num(3), name(5)), 0, (("num", 1, 4, 3),), 4)
        self.check(("let", 5, num(3), A), 0, (("num", 1, 4, 3),), 0)
        self.check(("let", 5, num(3), ("plus", name(5), name(5))), 0, (("num", 1, 4, 3), ("plus", 2, 5, 4, 4)), 5)

    def test_let_that_hides_another(self):
        body = ("plus", ("let", 10, ("plus", A, A), ("times", A, A)), A)
        rows = (("plus", 2, 4, 0, 0), ("times", 5, 5, 4, 4), ("plus", 0, 6, 5, 0))
        self.check(body, 0, rows, 6)

    def test_two_sided(self):
        for word in ("plus", "minus", "times", "less", "same"):
            self.check((word, A, A), 0, ((word, 0, 4, 0, 0),), 4)
            self.check((word, A, num(3)), 0, (("num", 2, 4, 3), (word, 0, 5, 0, 4)), 5)
            rows = (("num", 1, 4, 8), ("num", 2, 5, 9), (word, 0, 6, 4, 5))
            self.check((word, num(8), num(9)), 0, rows, 6)

    def test_of_one_part_without_a_depth(self):
        self.check(("upto", A), 1, (("upto", 0, 4, 0),), 4)
        for depth, row in ((1, B), (2, C), (3, D)):
            self.check(("len", row), 0, (("len", 0, 4, depth),), 4)
        self.check(("sum", B), 0, (("sum", 0, 4, 1),), 4)
        self.check(("sums", B), 1, (("sums", 0, 4, 1),), 4)
        self.check(("sum", ("upto", A)), 0, (("upto", 1, 4, 0), ("sum", 0, 5, 4)), 5)

    def test_with_the_depth_of_the_first(self):
        for depth, (x, _) in enumerate(PARAMS[:3]):
            self.check(("one", name(x)), depth + 1, (("one", 0, 4, depth, depth),), 4)
        for depth, (x, _) in enumerate(PARAMS):
            if depth > 0:
                self.check(("pick", name(x), A), depth - 1, (("pick", 0, 4, depth, 0, depth),), 4)
                self.check(("put", name(x), name(x)), depth, (("put", 0, 4, depth, depth, depth),), 4)
            if depth > 1:
                self.check(("flat", name(x)), depth - 1, (("flat", 0, 4, depth, depth),), 4)
        rows = (("upto", 2, 4, 0), ("put", 0, 5, 1, 4, 1))
        self.check(("put", B, ("upto", A)), 1, rows, 5)

    def test_call(self):
        first = (((3, 0), (4, 1)), 1, name(4))
        second = ((), 0, num(1))
        third = (PARAMS, 1, ("call", 0, (("call", 1, ()), ("upto", A))))
        rows = (("call", 1, 4, 1, ()), ("upto", 2, 5, 0), ("call", 0, 6, 0, (4, 5)))
        self.assertEqual(flat((first, second, third))[2], (rows, 6))
        self.assertEqual(flat((first, second, third))[:2], [((), 1), ((("num", 0, 0, 1),), 0)])
        itself = (PARAMS, 0, ("call", 0, (A, B, C, D)))
        self.assertEqual(flat((itself,)), [((("call", 0, 4, 0, (0, 1, 2, 3)),), 4)])

    def test_if(self):
        self.check(("if", A, B, B), 1, (("if", 0, 4, 0, (1,), (), 1, (), 1),), 4)
        rows = (
            ("num", 1, 4, 1),
            ("if", 0, 7, 4, (0,),
             (("num", 2, 5, 2),), 5,
             (("plus", 3, 6, 0, 0),), 6),
        )
        self.check(("if", num(1), num(2), ("plus", A, A)), 0, rows, 7)

    def test_each(self):
        for depth, (x, _) in enumerate(PARAMS):
            if depth > 0:
                self.check(("each", 5, name(x), name(5)), depth, (("each", 0, 5, depth, depth, 4, (), (), 4, depth),), 5)
        rows = (("each", 0, 6, 3, 3, 4, (), (("len", 2, 5, 4),), 5, 1),)
        self.check(("each", 5, D, ("len", name(5))), 1, rows, 6)
        rows = (("each", 0, 6, 1, 1, 4, (), (("upto", 2, 5, 4),), 5, 2),)
        self.check(("each", 5, B, ("upto", name(5))), 2, rows, 6)
        rows = (("upto", 1, 4, 0), ("each", 0, 6, 4, 1, 5, (2,), (), 2, 3))
        self.check(("each", 5, ("upto", A), C), 3, rows, 6)

    def test_where(self):
        self.check(("where", 5, B, name(5)), 1, (("where", 0, 5, 1, 1, 4, (), (), 4, 1),), 5)
        for depth, (x, _) in enumerate(PARAMS):
            if depth > 1:
                rows = (("where", 0, 6, depth, depth, 4, (), (("len", 2, 5, 4),), 5, depth),)
                self.check(("where", 5, name(x), ("len", name(5))), depth, rows, 6)
        rows = (("upto", 1, 4, 0), ("where", 0, 7, 4, 1, 5, (0,), (("less", 3, 6, 5, 0),), 6, 1))
        self.check(("where", 5, ("upto", A), ("less", name(5), A)), 1, rows, 7)

    def test_kinds(self):
        told = flat(only(("each", 5, B, ("if", A, name(5), A)), 1, *PARAMS))
        self.assertIs(type(told), list)
        self.assertIs(type(told[0]), tuple)

        def look(part):
            self.assertIn(type(part), (tuple, int, str))
            for inner in part if isinstance(part, tuple) else ():
                look(inner)

        look(told[0])


class Registers(unittest.TestCase):
    def test_parts_in_order_ahead_of_their_row(self):
        body = ("plus", ("times", num(1), num(2)), ("minus", ("less", num(3), num(4)), num(5)))
        rows = (
            ("num", 2, 0, 1), ("num", 3, 1, 2), ("times", 1, 2, 0, 1),
            ("num", 6, 3, 3), ("num", 7, 4, 4), ("less", 5, 5, 3, 4), ("num", 8, 6, 5), ("minus", 4, 7, 5, 6),
            ("plus", 0, 8, 2, 7),
        )
        self.assertEqual(flat(only(body)), [(rows, 8)])

    def test_the_items_register_ahead_of_the_bodys_and_behind_the_rows(self):
        body = ("each", 1, ("upto", num(3)), ("plus", ("times", name(1), num(2)), num(1)))
        rows = (
            ("num", 2, 0, 3), ("upto", 1, 1, 0),
            ("each", 0, 7, 1, 1, 2, (),
             (("num", 6, 3, 2), ("times", 4, 4, 2, 3), ("num", 7, 5, 1), ("plus", 3, 6, 4, 5)), 6, 1),
        )
        self.assertEqual(flat(only(body, 1)), [(rows, 7)])

    def test_registers_go_on_behind_blocks(self):
        body = ("plus", ("if", num(1), num(2), ("sum", ("each", 0, ("upto", num(3)), num(4)))), num(5))
        rows = (
            ("num", 2, 0, 1),
            ("if", 1, 8, 0, (),
             (("num", 3, 1, 2),), 1,
             (("num", 7, 2, 3), ("upto", 6, 3, 2), ("each", 5, 6, 3, 1, 4, (), (("num", 8, 5, 4),), 5, 1),
              ("sum", 4, 7, 6)), 7),
            ("num", 9, 9, 5),
            ("plus", 0, 10, 8, 9),
        )
        self.assertEqual(flat(only(body)), [(rows, 10)])

    def test_each_function_from_0(self):
        first = (((7, 0),), 0, ("plus", name(7), num(1)))
        second = (((3, 0), (7, 1)), 1, ("each", 9, name(7), ("call", 0, (name(9),))))
        third = ((), 1, ("call", 1, (num(1), ("upto", num(2)))))
        self.assertEqual(flat((first, second, third)), [
            ((("num", 2, 1, 1), ("plus", 0, 2, 0, 1)), 2),
            ((("each", 0, 4, 1, 1, 2, (), (("call", 2, 3, 0, (2,)),), 3, 1),), 4),
            ((("num", 1, 0, 1), ("num", 3, 1, 2), ("upto", 2, 2, 1), ("call", 0, 3, 1, (0, 2))), 3),
        ])


class TakenIn(unittest.TestCase):
    def row_of(self, body, depth):
        """The last row, of a function with PARAMS."""
        return flat(only(body, depth, *PARAMS))[0][0][-1]

    def test_nothing(self):
        self.assertEqual(self.row_of(("each", 5, B, num(1)), 1)[6], ())
        self.assertEqual(self.row_of(("each", 5, B, ("plus", name(5), name(5))), 1)[6], ())
        self.assertEqual(self.row_of(("where", 5, B, num(1)), 1)[6], ())
        self.assertEqual(self.row_of(("if", A, num(1), num(2)), 0)[4], ())

    def test_rising_and_each_once(self):
        inner = ("plus", ("pick", B, A), ("plus", ("len", D), ("plus", A, ("len", C))))
        self.assertEqual(self.row_of(("each", 5, B, inner), 1)[6], (0, 1, 2, 3))
        self.assertEqual(self.row_of(("each", 5, B, ("plus", ("len", D), ("plus", A, A))), 1)[6], (0, 3))
        self.assertEqual(self.row_of(("if", A, ("len", D), ("len", B)), 0)[4], (1, 3))
        self.assertEqual(self.row_of(("if", A, ("len", B), ("plus", ("len", B), A)), 0)[4], (0, 1))

    def test_rising_over_many_registers(self):
        # What this comes to is in register 8.
        eight = ("plus", ("plus", num(1), num(2)), num(3))
        self.assertEqual(self.row_of(("let", 6, eight, ("each", 5, B, ("pick", B, name(6)))), 1)[6], (1, 8))
        self.assertEqual(self.row_of(("let", 6, eight, ("if", A, name(6), ("len", B))), 0)[4], (1, 8))

    def test_what_is_only_told(self):
        self.assertEqual(self.row_of(("each", 5, B, A), 1), ("each", 0, 5, 1, 1, 4, (0,), (), 0, 1))
        self.assertEqual(self.row_of(("where", 5, C, A), 2), ("where", 0, 5, 2, 2, 4, (0,), (), 0, 2))
        self.assertEqual(self.row_of(("if", A, C, ("one", B)), 2)[4], (1, 2))
        self.assertEqual(self.row_of(("if", A, ("one", B), C), 2)[4], (1, 2))

    def test_the_choice_and_the_row_only_if_looked_at_within(self):
        self.assertEqual(self.row_of(("if", A, A, num(1)), 0)[4], (0,))
        self.assertEqual(self.row_of(("each", 5, B, ("pick", B, name(5))), 1)[6], (1,))
        body = ("let", 6, num(3), ("if", name(6), name(6), num(1)))
        self.assertEqual(self.row_of(body, 0)[4], (4,))

    def test_what_lets_and_rows_ahead_made(self):
        body = ("let", 6, ("upto", A), ("let", 7, num(2), ("each", 5, B, ("pick", name(6), name(7)))))
        self.assertEqual(self.row_of(body, 1)[6], (4, 5))

    def test_lets_within_the_block_are_not_taken_in(self):
        body = ("each", 5, B, ("let", 6, num(3), ("plus", name(6), name(5))))
        self.assertEqual(self.row_of(body, 1)[6], ())
        body = ("each", 5, B, ("let", 6, A, ("plus", name(6), name(5))))
        self.assertEqual(self.row_of(body, 1)[6], (0,))

    def test_two_names_of_one_register(self):
        body = ("let", 6, A, ("each", 5, B, ("plus", name(6), A)))
        self.assertEqual(self.row_of(body, 1)[6], (0,))

    def test_what_blocks_within_blocks_take_in(self):
        inner = ("each", 6, name(5), ("plus", ("plus", name(6), A), ("len", name(5))))
        rows = (
            ("each", 0, 10, 2, 2, 4, (0,),
             (("each", 2, 9, 4, 1, 5, (0, 4), (("plus", 5, 6, 5, 0), ("len", 8, 7, 4), ("plus", 4, 8, 6, 7)), 8, 1),),
             9, 2),
        )
        self.assertEqual(flat(only(("each", 5, C, inner), 2, *PARAMS)), [(rows, 10)])

    def test_what_an_inner_block_only_tells(self):
        body = ("each", 5, B, ("if", name(5), A, ("len", D)))
        row = self.row_of(body, 1)
        self.assertEqual(row[6], (0, 3))
        self.assertEqual(row[7][0][4], (0, 3))

    def test_the_inner_rows_own_row_and_choice(self):
        row = self.row_of(("each", 5, B, ("each", 6, B, num(1))), 2)
        self.assertEqual((row[6], row[7][0][6]), ((1,), ()))
        row = self.row_of(("each", 5, B, ("if", A, num(1), num(2))), 1)
        self.assertEqual((row[6], row[7][0][4]), ((0,), ()))

    def test_what_the_outer_block_made_is_taken_in_by_the_inner_one_only(self):
        row = self.row_of(("each", 5, B, ("let", 6, ("upto", name(5)), ("each", 7, name(6), ("len", name(6))))), 2)
        self.assertEqual(row[6], ())
        self.assertEqual(row[7][1][6], (5,))

    def test_of_call_pick_put_flat_one(self):
        first = (((0, 0), (1, 2)), 0, num(1))
        second = (PARAMS, 1, ("each", 5, B, ("call", 0, (A, C))))
        self.assertEqual(flat((first, second))[1][0][-1][6], (0, 2))
        self.assertEqual(self.row_of(("each", 5, B, ("pick", B, name(5))), 1)[6], (1,))
        # The depth that stands last in a row is no register.
        self.assertEqual(self.row_of(("each", 5, D, ("pick", name(5), A)), 2)[6], (0,))
        self.assertEqual(self.row_of(("each", 5, C, ("put", name(5), name(5))), 2)[6], ())
        self.assertEqual(self.row_of(("each", 5, D, ("flat", name(5))), 2)[6], ())
        self.assertEqual(self.row_of(("each", 5, C, ("one", name(5))), 3)[6], ())
        self.assertEqual(self.row_of(("each", 5, C, num(2)), 1)[6], ())

    def test_names_that_hide_others(self):
        self.assertEqual(self.row_of(("each", 10, B, ("plus", A, A)), 1)[6], ())
        self.assertEqual(self.row_of(("each", 11, C, ("sum", B)), 1)[6], ())


class Kept(unittest.TestCase):
    PROGRAM = only(("each", 5, B, ("if", A, name(5), A)), 1, *PARAMS)

    def test_the_list_told_changed_then_asked_again(self):
        kept = copy.deepcopy(self.PROGRAM)
        first = flat(self.PROGRAM)
        wanted = copy.deepcopy(first)
        first[0] = None
        first.append(5)
        self.assertEqual(flat(self.PROGRAM), wanted)
        self.assertEqual(self.PROGRAM, kept)

    def test_refusals(self):
        self.assertEqual(refused(flat, ()), (0, -1, "many"))
        self.assertEqual(refused(flat, (((), 0, num(1)),) * 7), (6, -1, "many"))
        self.assertEqual(refused(flat, only(num(1), 4)), (0, -1, "face"))
        self.assertEqual(refused(flat, (((), 0, num(1)), ((), 0, ("plus", num(1), name(9))))), (1, 2, "name"))


if __name__ == "__main__":
    unittest.main()
