"""Programs written as texts, and read from them."""

from nestrows.errors import BadText
from nestrows.forms import faces
from nestrows.shapes import LENGTHS, NUMBERED, parts_of

MOST_FIGURES = 5


def words_of(expression):
    """The words by which an expression is written, a list."""
    words = ["(", expression[0]]
    if expression[0] in NUMBERED:
        words.append(str(expression[1]))
    for part in parts_of(expression):
        words.extend(words_of(part))
    words.append(")")
    return words


def written_function(function):
    params, depth, body = function
    words = [str(depth), str(len(params))]
    for name, param_depth in params:
        words.extend([str(name), str(param_depth)])
    words.extend(words_of(body))
    return " ".join(words)


def written(program):
    """A program as a text, a row for each function; BadProgram if it is none."""
    faces(program)
    return "\n".join([written_function(function) for function in program])


def is_numeral(word):
    """Whether a word is a number of few figures without a needless 0."""
    if not word.isdigit() or len(word) > MOST_FIGURES:
        return False
    return word == "0" or word[0] != "0"


class RowReader:
    """Reads one row of a text, word by word; place is that of the word that comes next."""

    def __init__(self, row, text):
        self.row = row
        # A blank too many makes an empty word, which can't stand anywhere.
        self.words = text.split(" ")
        self.place = 0

    def upcoming(self):
        """The next word; an empty one if no more come, so that it is refused where one must."""
        if self.place == len(self.words):
            return ""
        return self.words[self.place]

    def next_word(self, can_stand):
        """Go on behind the next word, which it tells; BadText if it can't stand there."""
        if not can_stand:
            raise BadText(self.row, self.place)
        self.place += 1
        return self.words[self.place - 1]

    def numeral(self):
        return int(self.next_word(is_numeral(self.upcoming())))

    def sign(self, wanted):
        self.next_word(self.upcoming() == wanted)

    def function_told(self):
        depth = self.numeral()
        many = self.numeral()
        params = []
        while len(params) < many:
            name = self.numeral()
            params.append((name, self.numeral()))
        body = self.expression()
        if self.place < len(self.words):
            raise BadText(self.row, self.place)
        return (tuple(params), depth, body)

    def expression(self):
        self.sign("(")
        word = self.next_word(self.upcoming() in LENGTHS)
        start = (word, self.numeral()) if word in NUMBERED else (word,)
        parts = []
        while self.upcoming() == "(":
            parts.append(self.expression())
        self.sign(")")
        if word == "call":
            return start + (tuple(parts),)
        return start + tuple(parts)


def read(text):
    """The program that a text tells; BadText if a row of it is none, else BadProgram if the program can't be."""
    lines = text.split("\n")
    readers = [RowReader(at, line) for at, line in enumerate(lines)]
    program = tuple([reader.function_told() for reader in readers])
    faces(program)
    return program
