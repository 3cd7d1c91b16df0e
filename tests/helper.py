"""What the tests build programs with."""

from nestrows.errors import BadProgram


def num(n):
    return ("num", n)


def name(x):
    return ("name", x)


def only(body, depth=0, *params):
    """A program of one function; params are (name, depth)."""
    return ((tuple(params), depth, body),)


# Expressions of each depth without names.
OF_DEPTH = (
    ("num", 1),
    ("upto", ("num", 2)),
    ("one", ("upto", ("num", 2))),
    ("one", ("one", ("upto", ("num", 2)))),
)


def within(many, inner):
    """An expression of depth 0 in which inner, of depth 0, stands within so many others (an even number)."""
    for level in range(many // 2):
        inner = ("sum", ("one", inner))
    return inner


def spread(many):
    """An expression of depth 0 with so many expressions in all, few of them within one another."""
    if many == 1:
        return num(1)
    if many % 2 == 0:
        half = (many - 2) // 2
        half -= 1 - half % 2
        return ("if", num(1), spread(half), spread(many - 2 - half))
    half = (many - 1) // 2
    half -= 1 - half % 2
    return ("plus", spread(half), spread(many - 1 - half))


def count(expression):
    """How many expressions stand in this one, itself too."""
    if expression[0] == "call":
        return 1 + sum(count(part) for part in expression[2])
    return 1 + sum(count(part) for part in expression[1:] if isinstance(part, tuple))


def refused(function, *handed):
    """(function, place, word) by which a program is refused, None if it isn't."""
    try:
        function(*handed)
    except BadProgram as error:
        return (error.function, error.place, error.word)
    return None
