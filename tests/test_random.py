"""run against a plain model of [3], [5] and [6], on programs that are made by chance from fixed seeds."""

import random
import unittest

from nestrows.forms import faces
from nestrows.nested import run


class Ended(Exception):
    """The model met a fault."""


class Model:
    """A run by calls within one another, as the document tells it."""

    def __init__(self, program):
        self.program = program
        self.work = 0
        self.within = [0] * len(program)
        self.deepest = [0] * len(program)

    def tell(self, which, worths):
        try:
            told = ("worth", self.call(which, worths))
        except Ended as ended:
            told = ("fault",) + ended.args
        return (told, self.work, tuple(self.deepest))

    def call(self, which, worths):
        params, _, body = self.program[which]
        self.within[which] += 1
        self.deepest[which] = max(self.deepest[which], self.within[which])
        places = iter(range(60))
        worth = self.value(self.numbered(body, places), {x: w for (x, _), w in zip(params, worths)}, which)
        self.within[which] -= 1
        return worth

    def numbered(self, e, places):
        place = next(places)
        if e[0] == "call":
            return (place, "call", e[1], [self.numbered(part, places) for part in e[2]])
        return (place, e[0]) + tuple(self.numbered(part, places) if isinstance(part, tuple) else part
                                     for part in e[1:])

    def row(self, items, place, function):
        self.work += 1
        if len(items) > 40:
            raise Ended("many", function, place)
        self.work += len(items)
        return tuple(items)

    def value(self, e, names, function):
        place, word, parts = e[0], e[1], e[2:]

        def of(part, more=()):
            return self.value(part, {**names, **dict(more)}, function)

        if word == "name":
            return names[parts[0]]
        if word == "let":
            return of(parts[2], {parts[0]: of(parts[1])})
        if word == "num":
            self.work += 1
            return parts[0]
        if word == "if":
            chosen = of(parts[0])
            self.work += 1
            return of(parts[1] if chosen else parts[2])
        if word in ("each", "where"):
            row = of(parts[1])
            self.work += 1 + len(row)
            came = [of(parts[2], {parts[0]: item}) for item in row]
            return tuple(came) if word == "each" else tuple(row[at] for at in range(len(row)) if came[at])
        if word == "call":
            worths = [of(part) for part in parts[1]]
            self.work += 1
            if self.within[parts[0]] == 30:
                raise Ended("deep", function, place)
            return self.call(parts[0], worths)
        worths = [of(part) for part in parts]
        if word == "upto":
            return self.row(list(range(worths[0])), place, function)
        if word == "put":
            return self.row(list(worths[0]) + list(worths[1]), place, function)
        if word == "flat":
            return self.row(sum(map(list, worths[0]), []), place, function)
        if word == "one":
            return self.row(worths, place, function)
        if word == "sums":
            return self.row([sum(worths[0][:at]) % 10007 for at in range(len(worths[0]))], place, function)
        self.work += 1
        if word == "pick":
            if worths[1] >= len(worths[0]):
                raise Ended("beyond", function, place)
            return worths[0][worths[1]]
        if word == "len":
            return len(worths[0])
        if word == "sum":
            self.work += len(worths[0])
            return sum(worths[0]) % 10007
        first, second = worths
        return {"plus": (first + second) % 10007, "minus": (first - second) % 10007,
                "times": (first * second) % 10007, "less": int(first < second), "same": int(first == second)}[word]


class Maker:
    """Makes good programs by chance."""

    def __init__(self, seed):
        self.chance = random.Random(seed)

    def program(self):
        functions = []
        self.faces = []
        for at in range(self.chance.randint(1, 4)):
            many = self.chance.randint(1, 3)
            params = tuple((x, self.chance.choice((0, 0, 1, 1, 2, 3))) for x in self.chance.sample(range(20), many))
            depth = self.chance.choice((0, 0, 1, 1, 2, 3))
            self.faces.append((tuple(param[1] for param in params), depth))
            self.function = at
            self.left = 24
            self.itself = False
            functions.append((params, depth, self.expression(depth, dict(params), self.chance.randint(2, 6))))
        return tuple(functions)

    def worth(self, depth):
        if depth == 0:
            return self.chance.choice((0, 1, 2, 3, 5, 40, 41, 10006))
        many = self.chance.choice((0, 1, 2, 3)) if self.chance.random() < 0.9 else 25
        return tuple(self.worth(depth - 1) for _ in range(many))

    def leaf(self, depth, names):
        known = [x for x in sorted(names) if names[x] == depth]
        if known and self.chance.random() < 0.8:
            return ("name", self.chance.choice(known))
        if depth == 0:
            return ("num", self.chance.choice((0, 1, 2, 3, 4, 39, 41, 10006)))
        return ("upto", ("num", self.chance.randint(0, 4))) if depth == 1 else ("one", self.leaf(depth - 1, names))

    def expression(self, depth, names, levels):
        self.left -= 1
        if levels == 0 or self.left < 0:
            return self.leaf(depth, names)
        below = levels - 1

        def some(depth, more=()):
            return self.expression(depth, {**names, **dict(more)}, below)

        words = ["leaf", "if", "let", "call", "call"]
        words += ["pick"] * (depth < 3)
        words += ["plus", "minus", "times", "less", "same", "len", "sum"] if depth == 0 else ["put", "each", "where", "one"]
        words += ["upto", "sums"] * (depth == 1) + ["flat"] * (depth in (1, 2))
        word = self.chance.choice(words)
        name = self.chance.randint(0, 19)
        if word in ("plus", "minus", "times", "less", "same"):
            return (word, some(0), some(0))
        if word == "if":
            return (word, some(0), some(depth), some(depth))
        if word == "let":
            bound = self.chance.randint(0, 3)
            return (word, name, some(bound), some(depth, {name: bound}))
        if word in ("upto", "sums"):
            return (word, some(1 if word == "sums" else 0))
        if word in ("len", "sum"):
            return (word, some(self.chance.randint(1, 3) if word == "len" else 1))
        if word == "one":
            return (word, some(depth - 1))
        if word == "pick":
            return (word, some(depth + 1), some(0))
        if word == "put":
            return (word, some(depth), some(depth))
        if word == "flat":
            return (word, some(depth + 1))
        if word == "each":
            bound = self.chance.randint(0, 2)
            return (word, name, some(bound + 1), some(depth - 1, {name: bound}))
        if word == "where":
            return (word, name, some(depth), some(0, {name: depth - 1}))
        if word == "call":
            return self.call(depth, names, some)
        return self.leaf(depth, names)

    def call(self, depth, names, some):
        last = self.function if self.itself else self.function + 1
        known = [k for k in range(last) if self.faces[k][1] == depth]
        if not known:
            return self.leaf(depth, names)
        called = self.chance.choice(known)
        self.itself = self.itself or called == self.function
        return ("call", called, tuple(some(wanted) for wanted in self.faces[called][0]))


class AgainstTheModel(unittest.TestCase):
    def test_run_tells_what_the_model_tells(self):
        met = {}
        for seed in range(1500):
            maker = Maker(seed)
            program = maker.program()
            self.assertEqual(faces(program), maker.faces)
            which = len(program) - 1
            worths = [maker.worth(depth) for depth in maker.faces[which][0]]
            wanted = Model(program).tell(which, worths)
            self.assertEqual(run(program, which, worths), wanted, (seed, program, worths))
            kind = wanted[0][0] if wanted[0][0] == "worth" else wanted[0][1]
            met[kind] = met.get(kind, 0) + 1
        # The programs would show little if they hardly ever came to a worth, or to one of the faults.
        self.assertEqual(sorted(met), ["beyond", "deep", "many", "worth"])
        self.assertGreater(min(met.values()), 30)


if __name__ == "__main__":
    unittest.main()
