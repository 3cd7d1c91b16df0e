"""What the tests build programs with."""

import random

from nestrows.errors import BadProgram


def num(n):
    return ("num", n)


def name(x):
    return ("name", x)


def only(body, depth=0, *params):
    """A program of one function; params are (name, depth)."""
    return ((tuple(params), depth, body),)


# Expressions of each depth without names.
OF_DEPTH = (
    ("num", 1),
    ("upto", ("num", 2)),
    ("one", ("upto", ("num", 2))),
    ("one", ("one", ("upto", ("num", 2)))),
)


def within(many, inner):
    """An expression of depth 0 in which inner, of depth 0, stands within so many others (an even number)."""
    for level in range(many // 2):
        inner = ("sum", ("one", inner))
    return inner


def spread(many):
    """An expression of depth 0 with so many expressions in all, few of them within one another."""
    if many == 1:
        return num(1)
    if many % 2 == 0:
        half = (many - 2) // 2
        half -= 1 - half % 2
        return ("if", num(1), spread(half), spread(many - 2 - half))
    half = (many - 1) // 2
    half -= 1 - half % 2
    return ("plus", spread(half), spread(many - 1 - half))


def count(expression):
    """How many expressions stand in this one, itself too."""
    if expression[0] == "call":
        return 1 + sum(count(part) for part in expression[2])
    return 1 + sum(count(part) for part in expression[1:] if isinstance(part, tuple))


def refused(function, *handed):
    """(function, place, word) by which a program is refused, None if it isn't."""
    try:
        function(*handed)
    except BadProgram as error:
        return (error.function, error.place, error.word)
    return None


class Maker:
    """Makes good programs by chance."""

    def __init__(self, seed):
        self.chance = random.Random(seed)

    def program(self):
        functions = []
        self.faces = []
        for at in range(self.chance.randint(1, 4)):
            many = self.chance.randint(1, 3)
            params = tuple((x, self.chance.choice((0, 0, 1, 1, 2, 3))) for x in self.chance.sample(range(20), many))
            depth = self.chance.choice((0, 0, 1, 1, 2, 3))
            self.faces.append((tuple(param[1] for param in params), depth))
            self.function = at
            self.left = 24
            self.itself = False
            functions.append((params, depth, self.expression(depth, dict(params), self.chance.randint(2, 6))))
        return tuple(functions)

    def worth(self, depth):
        if depth == 0:
            return self.chance.choice((0, 1, 2, 3, 5, 40, 41, 10006))
        many = self.chance.choice((0, 1, 2, 3)) if self.chance.random() < 0.9 else 25
        return tuple(self.worth(depth - 1) for _ in range(many))

    def leaf(self, depth, names):
        known = [x for x in sorted(names) if names[x] == depth]
        if known and self.chance.random() < 0.8:
            return ("name", self.chance.choice(known))
        if depth == 0:
            return ("num", self.chance.choice((0, 1, 2, 3, 4, 39, 41, 10006)))
        return ("upto", ("num", self.chance.randint(0, 4))) if depth == 1 else ("one", self.leaf(depth - 1, names))

    def expression(self, depth, names, levels):
        self.left -= 1
        if levels == 0 or self.left < 0:
            return self.leaf(depth, names)
        below = levels - 1

        def some(depth, more=()):
            return self.expression(depth, {**names, **dict(more)}, below)

        words = ["leaf", "if", "let", "call", "call"]
        words += ["pick"] * (depth < 3)
        words += ["plus", "minus", "times", "less", "same", "len", "sum"] if depth == 0 else ["put", "each", "where", "one"]
        words += ["upto", "sums"] * (depth == 1) + ["flat"] * (depth in (1, 2))
        word = self.chance.choice(words)
        name = self.chance.randint(0, 19)
        if word in ("plus", "minus", "times", "less", "same"):
            return (word, some(0), some(0))
        if word == "if":
            return (word, some(0), some(depth), some(depth))
        if word == "let":
            bound = self.chance.randint(0, 3)
            return (word, name, some(bound), some(depth, {name: bound}))
        if word in ("upto", "sums"):
            return (word, some(1 if word == "sums" else 0))
        if word in ("len", "sum"):
            return (word, some(self.chance.randint(1, 3) if word == "len" else 1))
        if word == "one":
            return (word, some(depth - 1))
        if word == "pick":
            return (word, some(depth + 1), some(0))
        if word == "put":
            return (word, some(depth), some(depth))
        if word == "flat":
            return (word, some(depth + 1))
        if word == "each":
            bound = self.chance.randint(0, 2)
            return (word, name, some(bound + 1), some(depth - 1, {name: bound}))
        if word == "where":
            return (word, name, some(depth), some(0, {name: depth - 1}))
        if word == "call":
            return self.call(depth, names, some)
        return self.leaf(depth, names)

    def call(self, depth, names, some):
        last = self.function if self.itself else self.function + 1
        known = [k for k in range(last) if self.faces[k][1] == depth]
        if not known:
            return self.leaf(depth, names)
        called = self.chance.choice(known)
        self.itself = self.itself or called == self.function
        return ("call", called, tuple(some(wanted) for wanted in self.faces[called][0]))
