"""run against a plain model of [3], [5] and [6], on programs that are made by chance from fixed seeds."""

import unittest

from nestrows.forms import faces
from nestrows.nested import run
from tests.helper import Maker


class Ended(Exception):
    """The model met a fault."""


class Model:
    """A run by calls within one another, as the document tells it."""

    def __init__(self, program):
        self.program = program
        self.work = 0
        self.within = [0] * len(program)
        self.deepest = [0] * len(program)

    def tell(self, which, worths):
        try:
            told = ("worth", self.call(which, worths))
        except Ended as ended:
            told = ("fault",) + ended.args
        return (told, self.work, tuple(self.deepest))

    def call(self, which, worths):
        params, _, body = self.program[which]
        self.within[which] += 1
        self.deepest[which] = max(self.deepest[which], self.within[which])
        places = iter(range(60))
        worth = self.value(self.numbered(body, places), {x: w for (x, _), w in zip(params, worths)}, which)
        self.within[which] -= 1
        return worth

    def numbered(self, e, places):
        place = next(places)
        if e[0] == "call":
            return (place, "call", e[1], [self.numbered(part, places) for part in e[2]])
        return (place, e[0]) + tuple(self.numbered(part, places) if isinstance(part, tuple) else part
                                     for part in e[1:])

    def row(self, items, place, function):
        self.work += 1
        if len(items) > 40:
            raise Ended("many", function, place)
        self.work += len(items)
        return tuple(items)

    def value(self, e, names, function):
        place, word, parts = e[0], e[1], e[2:]

        def of(part, more=()):
            return self.value(part, {**names, **dict(more)}, function)

        if word == "name":
            return names[parts[0]]
        if word == "let":
            return of(parts[2], {parts[0]: of(parts[1])})
        if word == "num":
            self.work += 1
            return parts[0]
        if word == "if":
            chosen = of(parts[0])
            self.work += 1
            return of(parts[1] if chosen else parts[2])
        if word in ("each", "where"):
            row = of(parts[1])
            self.work += 1 + len(row)
            came = [of(parts[2], {parts[0]: item}) for item in row]
            return tuple(came) if word == "each" else tuple(row[at] for at in range(len(row)) if came[at])
        if word == "call":
            worths = [of(part) for part in parts[1]]
            self.work += 1
            if self.within[parts[0]] == 30:
                raise Ended("deep", function, place)
            return self.call(parts[0], worths)
        worths = [of(part) for part in parts]
        if word == "upto":
            return self.row(list(range(worths[0])), place, function)
        if word == "put":
            return self.row(list(worths[0]) + list(worths[1]), place, function)
        if word == "flat":
            return self.row(sum(map(list, worths[0]), []), place, function)
        if word == "one":
            return self.row(worths, place, function)
        if word == "sums":
            return self.row([sum(worths[0][:at]) % 10007 for at in range(len(worths[0]))], place, function)
        self.work += 1
        if word == "pick":
            if worths[1] >= len(worths[0]):
                raise Ended("beyond", function, place)
            return worths[0][worths[1]]
        if word == "len":
            return len(worths[0])
        if word == "sum":
            self.work += len(worths[0])
            return sum(worths[0]) % 10007
        first, second = worths
        return {"plus": (first + second) % 10007, "minus": (first - second) % 10007,
                "times": (first * second) % 10007, "less": int(first < second), "same": int(first == second)}[word]


class AgainstTheModel(unittest.TestCase):
    def test_run_tells_what_the_model_tells(self):
        met = {}
        for seed in range(1500):
            maker = Maker(seed)
            program = maker.program()
            self.assertEqual(faces(program), maker.faces)
            which = len(program) - 1
            worths = [maker.worth(depth) for depth in maker.faces[which][0]]
            wanted = Model(program).tell(which, worths)
            self.assertEqual(run(program, which, worths), wanted, (seed, program, worths))
            kind = wanted[0][0] if wanted[0][0] == "worth" else wanted[0][1]
            met[kind] = met.get(kind, 0) + 1
        # The programs would show little if they hardly ever came to a worth, or to one of the faults.
        self.assertEqual(sorted(met), ["beyond", "deep", "many", "worth"])
        self.assertGreater(min(met.values()), 30)


if __name__ == "__main__":
    unittest.main()
