"""The written shape of expressions: their words, numbers and parts."""

from nestrows.limits import LAST_NAME, LAST_NUMBER, MOST_FUNCTIONS, is_number

LENGTHS = {
    "num": 2, "name": 2,
    "plus": 3, "minus": 3, "times": 3, "less": 3, "same": 3,
    "if": 4, "let": 4,
    "upto": 2, "len": 2, "sum": 2, "sums": 2, "one": 2, "pick": 3, "put": 3, "flat": 2,
    "each": 4, "where": 4,
    "call": 3,
}

# The words behind which a number of their own stands.
NUMBERED = ("num", "name", "let", "each", "where", "call")


def last_number(word):
    """The last number that may stand behind the word."""
    if word == "num":
        return LAST_NUMBER
    if word == "call":
        return MOST_FUNCTIONS - 1
    return LAST_NAME


def has_shape(expression):
    """Whether word, count of parts and number are good; the parts themselves are not looked at."""
    if not isinstance(expression, tuple) or len(expression) == 0:
        return False
    word = expression[0]
    if not isinstance(word, str) or word not in LENGTHS or len(expression) != LENGTHS[word]:
        return False
    if word in NUMBERED and not is_number(expression[1], last_number(word)):
        return False
    return word != "call" or isinstance(expression[2], tuple)


def number_of(expression):
    """The number behind the word, -1 if none stands there."""
    if expression[0] in NUMBERED:
        return expression[1]
    return -1


def parts_of(expression):
    """The expressions that stand straight in this one, in order."""
    if expression[0] == "call":
        return list(expression[2])
    if expression[0] in NUMBERED:
        return list(expression[2:])
    return list(expression[1:])
