"""written and read: what is written, what is read, and each refusal with its row and place."""

import copy
import unittest

from nestrows.errors import BadProgram, BadText
from nestrows.notes import read, written
from tests.helper import name, num, only, refused, spread, within

# Each sort of expression, its depth, and how it is written, in a function behind AHEAD with params 3 and 17.
SORTS = (
    (num(0), 0, "( num 0 )"),
    (num(10006), 0, "( num 10006 )"),
    (name(3), 0, "( name 3 )"),
    (("plus", num(1), num(2)), 0, "( plus ( num 1 ) ( num 2 ) )"),
    (("minus", num(1), num(2)), 0, "( minus ( num 1 ) ( num 2 ) )"),
    (("times", num(1), num(2)), 0, "( times ( num 1 ) ( num 2 ) )"),
    (("less", num(1), num(2)), 0, "( less ( num 1 ) ( num 2 ) )"),
    (("same", num(1), num(2)), 0, "( same ( num 1 ) ( num 2 ) )"),
    (("if", num(1), num(2), num(3)), 0, "( if ( num 1 ) ( num 2 ) ( num 3 ) )"),
    (("let", 19, num(2), name(19)), 0, "( let 19 ( num 2 ) ( name 19 ) )"),
    (("upto", num(2)), 1, "( upto ( num 2 ) )"),
    (("len", name(17)), 0, "( len ( name 17 ) )"),
    (("sum", name(17)), 0, "( sum ( name 17 ) )"),
    (("sums", name(17)), 1, "( sums ( name 17 ) )"),
    (("one", name(17)), 2, "( one ( name 17 ) )"),
    (("pick", name(17), num(2)), 0, "( pick ( name 17 ) ( num 2 ) )"),
    (("put", name(17), name(17)), 1, "( put ( name 17 ) ( name 17 ) )"),
    (("flat", ("one", name(17))), 1, "( flat ( one ( name 17 ) ) )"),
    (("each", 4, name(17), name(4)), 1, "( each 4 ( name 17 ) ( name 4 ) )"),
    (("where", 4, name(17), name(4)), 1, "( where 4 ( name 17 ) ( name 4 ) )"),
    (("call", 0, ()), 0, "( call 0 )"),
    (("call", 1, (name(3), ("sum", name(17)))), 1, "( call 1 ( name 3 ) ( sum ( name 17 ) ) )"),
)
AHEAD = (((), 0, num(5)), (((0, 0), (1, 0)), 1, ("upto", name(0))))
AHEAD_WRITTEN = "0 0 ( num 5 )\n1 2 0 0 1 0 ( upto ( name 0 ) )\n"


def bad_text(text):
    """(row, place) by which a text is refused, None if it isn't as a text."""
    try:
        read(text)
    except BadText as error:
        return (error.row, error.place)
    except BadProgram:
        return None
    return None


class Written(unittest.TestCase):
    def test_each_sort(self):
        for body, depth, text in SORTS:
            with self.subTest(text=text):
                program = AHEAD + ((((3, 0), (17, 1)), depth, body),)
                wanted = f"{AHEAD_WRITTEN}{depth} 2 3 0 17 1 {text}"
                self.assertEqual(written(program), wanted)
                self.assertEqual(read(wanted), program)

    def test_functions_with_and_without_params(self):
        self.assertEqual(written(only(num(1))), "0 0 ( num 1 )")
        self.assertEqual(written(only(name(19), 3, (19, 3))), "3 1 19 3 ( name 19 )")
        program = only(name(2), 2, (7, 0), (0, 1), (2, 2), (12, 3))
        self.assertEqual(written(program), "2 4 7 0 0 1 2 2 12 3 ( name 2 )")
        self.assertEqual(read(written(program)), program)

    def test_one_to_six_functions(self):
        for many in range(1, 7):
            program = tuple(((), 0, num(k)) for k in range(many))
            text = "\n".join(f"0 0 ( num {k} )" for k in range(many))
            self.assertEqual(written(program), text)
            self.assertEqual(read(text), program)

    def test_kinds(self):
        self.assertIs(type(written(only(num(1)))), str)
        program = read("1 1 3 0 ( call 0 ( name 3 ) )")
        self.assertEqual(program, only(("call", 0, (name(3),)), 1, (3, 0)))

        def look(part):
            self.assertIn(type(part), (tuple, int, str))
            for inner in part if isinstance(part, tuple) else ():
                look(inner)

        look(program)

    def test_large_programs(self):
        for body in (spread(60), within(12, num(1))):
            self.assertEqual(read(written(only(body))), only(body))

    def test_refusals(self):
        self.assertEqual(refused(written, ()), (0, -1, "many"))
        self.assertEqual(refused(written, only(num(1), 4)), (0, -1, "face"))
        self.assertEqual(refused(written, only(("plus", num(1)))), (0, 0, "form"))
        self.assertEqual(refused(written, (((), 0, num(1)), ((), 0, ("upto", num(1))))), (1, 0, "depth"))

    def test_asked_again_the_same_is_told(self):
        program = only(("each", 4, name(17), name(4)), 1, (17, 1))
        kept = copy.deepcopy(program)
        text = written(program)
        self.assertEqual(written(program), text)
        self.assertEqual(read(text), read(text))
        self.assertEqual(program, kept)


class BadWords(unittest.TestCase):
    GOOD = "0 1 3 0 ( plus ( name 3 ) ( num 12 ) )"
    WRONG = ("", "x", "-1", "+1", "1.0", "1e3", "a1", "1a", "00", "01", "007", "100000", "123456", "(", ")", "num", "((")

    def with_word(self, place, word):
        words = self.GOOD.split(" ")
        words[place] = word
        return " ".join(words)

    def test_the_good_one(self):
        self.assertEqual(read(self.GOOD), only(("plus", name(3), num(12)), 0, (3, 0)))

    def test_numbers(self):
        # The depth told, how many params, name and depth, and the numbers of name and num.
        for place in (0, 1, 2, 3, 8, 12):
            for word in self.WRONG:
                with self.subTest(place=place, word=word):
                    self.assertEqual(bad_text(self.with_word(place, word)), (0, place))

    def test_brackets(self):
        for place in (4, 9, 13, 14):
            for word in ("", "x", "0", "plus", "[", "((", "))", "()", "{"):
                self.assertEqual(bad_text(self.with_word(place, word)), (0, place))
        self.assertEqual(bad_text(self.with_word(4, ")")), (0, 4))
        for place in (6, 10):
            for word in ("", "x", "0", "plus", "((", "(num"):
                self.assertEqual(bad_text(self.with_word(place, word)), (0, place))

    def test_words(self):
        for place in (5, 7, 11):
            for word in ("", "x", "Plus", "plusses", "add", "0", "12", "(", ")", "NUM", "fault", "worth"):
                with self.subTest(place=place, word=word):
                    self.assertEqual(bad_text(self.with_word(place, word)), (0, place))

    def test_each_words_own_number(self):
        for word in ("num", "name", "let", "each", "where", "call"):
            self.assertEqual(bad_text(f"0 0 ( {word} )"), (0, 4))
            self.assertEqual(bad_text(f"0 0 ( {word} ( num 1 ) )"), (0, 4))
            self.assertEqual(bad_text(f"0 0 ( {word} ( num 1 ) 1 )"), (0, 4))
            self.assertEqual(bad_text(f"0 0 ( {word} 01 )"), (0, 4))
            self.assertEqual(bad_text(f"0 0 ( {word} 1 1 )"), (0, 5))
            self.assertEqual(bad_text(f"0 0 ( {word} 1 ( num 1 ) 1 )"), (0, 9))
        for word in ("plus", "minus", "times", "less", "same", "if", "upto", "len", "sum", "sums", "one", "pick", "put",
                     "flat"):
            self.assertEqual(bad_text(f"0 0 ( {word} 1 ( num 1 ) )"), (0, 4))

    def test_numbers_of_one_to_five_figures_can_stand(self):
        for figures in ("0", "9", "10", "100", "10007", "99999"):
            for text in (f"{figures} 0 ( num 1 )", f"0 1 {figures} 0 ( num 1 )", f"0 1 0 {figures} ( num 1 )",
                         f"0 0 ( num {figures} )", f"0 0 ( name {figures} )", f"0 0 ( call {figures} )"):
                self.assertIsNone(bad_text(text), text)

    def test_blanks_too_many(self):
        words = self.GOOD.split(" ")
        for place in range(1, len(words)):
            for blanks in ("  ", "   "):
                text = " ".join(words[:place]) + blanks + " ".join(words[place:])
                self.assertEqual(bad_text(text), (0, place))

    def test_blanks_at_the_start_and_the_end(self):
        self.assertEqual(bad_text(" " + self.GOOD), (0, 0))
        self.assertEqual(bad_text("  " + self.GOOD), (0, 0))
        self.assertEqual(bad_text(self.GOOD + " "), (0, 15))
        self.assertEqual(bad_text(self.GOOD + "  "), (0, 15))
        self.assertEqual(bad_text(self.GOOD + " \n" + self.GOOD), (0, 15))
        self.assertEqual(bad_text(self.GOOD + "\n " + self.GOOD), (1, 0))

    def test_blanks_too_few(self):
        self.assertEqual(bad_text("00 ( num 1 )"), (0, 0))
        self.assertEqual(bad_text("0 0 (num 1 )"), (0, 2))
        self.assertEqual(bad_text("0 0 ( num 1)"), (0, 4))
        self.assertEqual(bad_text("0 0 ( num1 )"), (0, 3))

    def test_rows_of_no_words(self):
        self.assertEqual(bad_text(""), (0, 0))
        self.assertEqual(bad_text(" "), (0, 0))
        self.assertEqual(bad_text("\n"), (0, 0))
        self.assertEqual(bad_text(self.GOOD + "\n"), (1, 0))
        self.assertEqual(bad_text("\n" + self.GOOD), (0, 0))
        self.assertEqual(bad_text(self.GOOD + "\n\n" + self.GOOD), (1, 0))
        self.assertEqual(bad_text(self.GOOD + "\n  \n" + self.GOOD), (1, 0))

    def test_words_behind_the_last_bracket(self):
        for word in ("x", "0", "(", ")", "( num 1 )", "num"):
            self.assertEqual(bad_text(f"{self.GOOD} {word}"), (0, 15))
            self.assertEqual(bad_text(f"{self.GOOD}\n{self.GOOD} {word}"), (1, 15))

    def test_rows_that_end_too_soon(self):
        words = self.GOOD.split(" ")
        for many in range(1, len(words)):
            self.assertEqual(bad_text(" ".join(words[:many])), (0, many))
            self.assertEqual(bad_text(self.GOOD + "\n" + " ".join(words[:many]) + "\n" + self.GOOD), (1, many))
            # A blank behind the last word makes no difference.
            self.assertEqual(bad_text(" ".join(words[:many]) + " "), (0, many))

    def test_as_many_params_as_told(self):
        self.assertEqual(bad_text("0 2 3 0 ( num 1 )"), (0, 4))
        self.assertEqual(bad_text("0 1 3 0 4 0 ( num 1 )"), (0, 4))
        self.assertEqual(bad_text("0 0 3 0 ( num 1 )"), (0, 2))
        self.assertEqual(bad_text("0 99999 3 0 ( num 1 )"), (0, 4))
        self.assertEqual(bad_text("0 99999 3 0 4"), (0, 5))

    def test_fifty_brackets_within_one_another(self):
        deep = "( one " * 50 + ") " * 50
        self.assertIsNone(bad_text("0 0 " + deep.strip()))
        self.assertEqual(bad_text("0 0 " + "( one " * 50), (0, 102))
        self.assertEqual(bad_text("0 0 " + deep + ")"), (0, 152))

    def test_the_first_of_several(self):
        self.assertEqual(bad_text("0 0 ( num 01 ) x"), (0, 4))
        self.assertEqual(bad_text("0 x ( y"), (0, 1))
        self.assertEqual(bad_text("0 0 ( num 1 )\n0 0 ( x 1 )\n0 y"), (1, 3))
        self.assertEqual(bad_text("0 0 ( num\nx"), (0, 4))

    def test_signs_of_all_sorts(self):
        for code in range(32, 127):
            sign = chr(code)
            if sign != "%" and not sign.isdigit():
                self.assertEqual(bad_text(f"{sign} 0 ( num 1 )"), (0, 0))
                self.assertEqual(bad_text(f"0 0 ( num {sign} )"), (0, 4))


class BadPrograms(unittest.TestCase):
    def check(self, text, function, place, word):
        self.assertEqual(refused(read, text), (function, place, word))

    def test_many(self):
        self.check("\n".join(["0 0 ( num 1 )"] * 7), 6, -1, "many")

    def test_face(self):
        self.check("4 0 ( num 1 )", 0, -1, "face")
        self.check("99999 0 ( num 1 )", 0, -1, "face")
        self.check("0 1 20 0 ( num 1 )", 0, -1, "face")
        self.check("0 1 0 4 ( num 1 )", 0, -1, "face")
        self.check("0 2 3 0 3 0 ( num 1 )", 0, -1, "face")
        self.check("0 5 0 0 1 0 2 0 3 0 4 0 ( num 1 )", 0, -1, "face")
        self.check("0 0 ( num 1 )\n0 1 20 0 ( num 1 )", 1, -1, "face")

    def test_form_by_any_count_of_parts(self):
        for body in ("( plus )", "( plus ( num 1 ) )", "( plus ( num 1 ) ( num 1 ) ( num 1 ) )", "( num 1 ( num 1 ) )",
                     "( name 0 ( num 1 ) )", "( if ( num 1 ) ( num 1 ) )", "( let 1 ( num 1 ) )", "( each 1 )",
                     "( where 1 ( num 1 ) ( num 1 ) ( num 1 ) )", "( upto )", "( one ( num 1 ) ( num 1 ) )"):
            self.check(f"0 0 {body}", 0, 0, "form")
            self.check(f"0 0 ( plus ( num 1 ) {body} )", 0, 2, "form")

    def test_form_by_numbers(self):
        for body in ("( num 10007 )", "( num 99999 )", "( name 20 )", "( let 20 ( num 1 ) ( num 1 ) )", "( call 6 )",
                     "( each 20 ( num 1 ) ( num 1 ) )", "( where 99999 ( num 1 ) ( num 1 ) )", "( call 6 ( num 1 ) )"):
            self.check(f"0 0 {body}", 0, 0, "form")

    def test_name_call_and_depth(self):
        self.check("0 0 ( plus ( num 1 ) ( name 3 ) )", 0, 2, "name")
        self.check("0 0 ( call 1 )", 0, 0, "call")
        self.check("0 0 ( call 0 ( num 1 ) )", 0, 0, "call")
        self.check("0 0 ( num 1 )\n0 0 ( plus ( call 0 ) ( call 0 ( num 1 ) ) )", 1, 2, "call")
        self.check("0 0 ( sum ( num 1 ) )", 0, 0, "depth")
        self.check("1 0 ( num 1 )", 0, 0, "depth")

    def test_size(self):
        deep = "( one " * 50 + ") " * 50
        self.check("0 0 " + deep.strip(), 0, 13, "size")
        self.check("0 0 ( call 0" + " ( num 1 )" * 60 + " )", 0, 0, "call")
        self.check("0 0 ( plus" + " ( num 1 )" * 60 + " )", 0, 0, "form")

    def test_texts_ahead_of_programs(self):
        self.assertEqual(bad_text("4 0 ( num 1 )\n0 0 ( num 01 )"), (1, 4))
        self.assertEqual(bad_text("0 0 ( name 3 ) x"), (0, 6))
        self.assertEqual(bad_text("\n".join(["0 0 ( num 1 )"] * 7) + "\n"), (7, 0))
        self.assertEqual(bad_text("0 0 ( plus ( num 99999 ) ( x ) )"), (0, 9))

    def test_of_several_the_first_by_the_programs_order(self):
        self.check("0 0 ( name 3 )\n4 0 ( num 1 )", 1, -1, "face")
        self.check("0 0 ( name 3 )\n0 0 ( plus )", 0, 0, "name")


if __name__ == "__main__":
    unittest.main()
