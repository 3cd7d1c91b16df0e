"""The flat machine, bounds and texts on programs that are made by chance from fixed seeds.

Beside the comparison with run, a plain model of [7] to [9] works straight on the
expressions, on lanes that are objects, and knows neither rows, registers nor heaps.
"""

import unittest

from nestrows.bounds import names_at_most, run_trimmed, steps_at_most, trimmed
from nestrows.flatcode import flat
from nestrows.machine import run_all, run_flat
from nestrows.nested import run
from nestrows.notes import read, written
from tests.helper import Maker, count

SEEDS = range(1000)


class TooMuch(Exception):
    """Lanes that multiply from call to call: nothing to wait for."""


class Lane:
    def __init__(self, names, owner=None):
        self.names = names
        self.owner = owner
        self.fault = None


class FlatModel:
    MOST_WORK = 20000

    def __init__(self, program):
        self.program = program
        self.steps = self.work = self.taken = 0
        self.within = [0] * len(program)
        self.deepest = [0] * len(program)
        self.most_names = 0

    def tell(self, which, many):
        lanes = [Lane(list(worths)) for worths in many]
        told = self.call(which, {lane: lane.names for lane in lanes})
        told = [("worth", told[lane]) if lane.fault is None else lane.fault for lane in lanes]
        return (told, self.steps, self.work, self.taken, tuple(self.deepest))

    def call(self, which, handed):
        params, _, body = self.program[which]
        self.within[which] += 1
        self.deepest[which] = max(self.deepest[which], self.within[which])
        lanes = [Lane({x: w for (x, _), w in zip(params, worths)}, lane) for lane, worths in handed.items()]
        scope = {x: ("param", at) for at, (x, _) in enumerate(params)}
        came = self.value(body, 0, scope, lanes, which)
        self.within[which] -= 1
        return self.outside(lanes, came)

    def outside(self, lanes, came):
        """What one lane for each owner came to, as the owners'; of several faults the first."""
        for lane in lanes:
            if lane.fault is not None and lane.owner.fault is None:
                lane.owner.fault = lane.fault
        return {lane.owner: worth for lane, worth in came.items() if lane.owner.fault is None}

    def begin(self, lanes):
        going = [lane for lane in lanes if lane.fault is None]
        if going:
            self.steps += 1
            self.work += len(going)
        if self.work > self.MOST_WORK:
            raise TooMuch()
        return going

    def looks(self, e, place, scope):
        """(what e tells, what its rows look at); a thing is (sort, place at which it is made)."""
        word = e[0]
        if word == "num":
            return (("made", place), set())
        if word == "name":
            return (scope[e[1]], set())
        if word == "let":
            named, first = self.looks(e[2], place + 1, scope)
            told, second = self.looks(e[3], place + 1 + count(e[2]), {**scope, e[1]: named})
            return (told, first | second)
        if word in ("each", "where"):
            told, seen = self.looks(e[2], place + 1, scope)
            return (("made", place), seen | {told} | self.names_taken(e, place, scope))
        if word == "if":
            told, seen = self.looks(e[1], place + 1, scope)
            return (("made", place), seen | {told} | self.names_taken(e, place, scope))
        seen = set()
        at = place + 1
        for part in e[2] if word == "call" else e[1:]:
            told, more = self.looks(part, at, scope)
            seen |= more | {told}
            at += count(part)
        return (("made", place), seen)

    def names_taken(self, e, place, scope):
        """What the blocks of e look at or tell, but isn't made in them."""
        seen = set()
        first = e[1] if e[0] == "if" else e[2]
        start = at = place + 1 + count(first)
        for part in e[2:] if e[0] == "if" else e[3:]:
            inner = scope if e[0] == "if" else {**scope, e[1]: ("item", place)}
            told, more = self.looks(part, at, inner)
            seen |= more | {told}
            at += count(part)
        return {thing for thing in seen
                if thing != ("item", place) and (thing[0] == "param" or not start <= thing[1] < at)}

    def enter(self, e, place, scope, many):
        names = len(self.names_taken(e, place, scope))
        self.most_names = max(self.most_names, names)
        self.taken += names * many

    def value(self, e, place, scope, lanes, function):
        word = e[0]
        if word == "name":
            return {lane: lane.names[e[1]] for lane in lanes if lane.fault is None}
        if word == "let":
            came = self.value(e[2], place + 1, scope, lanes, function)
            inner = [Lane({**lane.names, e[1]: came[lane]}, lane) for lane in lanes if lane.fault is None]
            told = self.looks(e[2], place + 1, scope)[0]
            behind = place + 1 + count(e[2])
            return self.outside(inner, self.value(e[3], behind, {**scope, e[1]: told}, inner, function))
        if word == "if":
            return self.choose(e, place, scope, lanes, function)
        if word in ("each", "where"):
            return self.go_over(e, place, scope, lanes, function)
        parts = []
        at = place + 1
        for part in () if word == "num" else e[2] if word == "call" else e[1:]:
            parts.append(self.value(part, at, scope, lanes, function))
            at += count(part)
        going = self.begin(lanes)
        if not going:
            return {}
        handed = {lane: [part[lane] for part in parts] for lane in going}
        if word == "call":
            if self.within[e[1]] < 30:
                return self.call(e[1], handed)
            for lane in going:
                lane.fault = ("fault", "deep", function, place)
            return {}
        came = {}
        for lane in going:
            fault = self.fault(word, handed[lane])
            if fault:
                lane.fault = ("fault", fault, function, place)
            else:
                came[lane] = e[1] if word == "num" else self.deed(word, handed[lane])
        return came

    def choose(self, e, place, scope, lanes, function):
        chosen = self.value(e[1], place + 1, scope, lanes, function)
        going = self.begin(lanes)
        told = {}
        for part, at, wanted in ((e[2], 1 + count(e[1]), True), (e[3], 1 + count(e[1]) + count(e[2]), False)):
            inner = [lane for lane in going if (chosen[lane] != 0) == wanted]
            self.enter(e, place, scope, len(inner))
            if inner:
                told.update(self.value(part, place + at, scope, inner, function))
        return told

    def go_over(self, e, place, scope, lanes, function):
        rows = self.value(e[2], place + 1, scope, lanes, function)
        going = self.begin(lanes)
        inner = [Lane({**lane.names, e[1]: item}, lane) for lane in going for item in rows[lane]]
        self.work += len(inner)
        self.enter(e, place, scope, len(inner))
        came = {}
        if inner:
            scope = {**scope, e[1]: ("item", place)}
            came = self.value(e[3], place + 1 + count(e[2]), scope, inner, function)
        self.outside(inner, came)
        told = {lane: [] for lane in going if lane.fault is None}
        for lane in inner:
            if lane.owner in told and e[0] == "each":
                told[lane.owner].append(came[lane])
            elif lane.owner in told and came[lane]:
                told[lane.owner].append(lane.names[e[1]])
        return {lane: tuple(told[lane]) for lane in told}

    def fault(self, word, worths):
        if word == "pick":
            return "" if worths[1] < len(worths[0]) else "beyond"
        many = {"upto": lambda: worths[0], "put": lambda: len(worths[0] + worths[1]),
                "flat": lambda: sum(map(len, worths[0]))}.get(word, lambda: 0)()
        return "many" if many > 40 else ""

    def deed(self, word, worths):
        first, second = (worths + [0])[:2]
        if word in ("upto", "one", "put", "flat", "sums"):
            made = {"upto": lambda: tuple(range(first)), "one": lambda: (first,), "put": lambda: first + second,
                    "flat": lambda: sum(first, ()),
                    "sums": lambda: tuple(sum(first[:at]) % 10007 for at in range(len(first)))}[word]()
            self.work += len(made)
            return made
        if word == "sum":
            self.work += len(first)
        return {"plus": lambda: (first + second) % 10007, "minus": lambda: (first - second) % 10007,
                "times": lambda: (first * second) % 10007, "less": lambda: int(first < second),
                "same": lambda: int(first == second), "len": lambda: len(first),
                "sum": lambda: sum(first) % 10007, "pick": lambda: first[second]}[word]()


class Case:
    """A program made from a seed, a function of it, two lists of worths for it, and what the model tells."""

    def __init__(self, seed):
        maker = Maker(seed)
        self.program = maker.program()
        self.which = len(self.program) - 1
        self.wanted = maker.faces[self.which][0]
        self.depth = maker.faces[self.which][1]
        self.many = [[maker.worth(depth) for depth in self.wanted] for _ in range(3)]
        self.model = FlatModel(self.program)
        self.alone = self.model.tell(self.which, self.many[:1])
        self.together = FlatModel(self.program).tell(self.which, self.many)
        self.shown = (seed, self.program, self.many)


def cases():
    found = []
    for seed in SEEDS:
        try:
            found.append(Case(seed))
        except TooMuch:
            pass
    return found


def registers(rows):
    """The registers into which rows come, in the order of rows, those of blocks too."""
    for row in rows:
        blocks = row[5:8:2] if row[0] == "if" else row[7:8] if row[0] in ("each", "where") else ()
        for block in blocks:
            yield from registers(block)
        yield row[2]


def taken_in(rows):
    """What the blocks of rows take in, those within blocks too."""
    for row in rows:
        if row[0] == "if":
            yield row[4]
            yield from taken_in(row[5] + row[7])
        elif row[0] in ("each", "where"):
            yield row[6]
            yield from taken_in(row[7])


class FromSeeds(unittest.TestCase):
    @classmethod
    def setUpClass(cls):
        cls.cases = cases()

    def test_there_are_enough_of_all_sorts(self):
        self.assertGreater(len(self.cases), 900)
        met = {}
        for case in self.cases:
            for told in case.together[0]:
                kind = told[0] if told[0] == "worth" else told[1]
                met[kind] = met.get(kind, 0) + 1
            met["parted"] = met.get("parted", 0) + (len({told[0] for told in case.together[0]}) > 1)
            met["taken"] = met.get("taken", 0) + (case.alone[3] > 0)
        self.assertEqual(sorted(met), ["beyond", "deep", "many", "parted", "taken", "worth"])
        self.assertGreater(min(met.values()), 50)

    def test_run_flat_tells_what_the_model_tells(self):
        for case in self.cases:
            told, *counted = run_flat(case.program, case.which, case.many[0])
            self.assertEqual(([told], *counted), case.alone, case.shown)

    def test_run_flat_tells_what_run_tells(self):
        for case in self.cases:
            told, steps, work, taken, deepest = run_flat(case.program, case.which, case.many[0])
            wanted = run(case.program, case.which, case.many[0])
            self.assertEqual(told, wanted[0], case.shown)
            if told[0] == "worth":
                self.assertEqual((work, deepest), wanted[1:], case.shown)

    def test_run_all_of_one_as_run_flat(self):
        for case in self.cases:
            told, *counted = run_flat(case.program, case.which, case.many[0])
            self.assertEqual(run_all(case.program, case.which, case.many[:1]), ([told], *counted), case.shown)

    def test_run_all_tells_what_the_model_tells(self):
        for case in self.cases:
            self.assertEqual(run_all(case.program, case.which, case.many), case.together, case.shown)

    def test_run_all_tells_of_each_what_run_tells_of_it_alone(self):
        for case in self.cases:
            told, steps, *rest = run_all(case.program, case.which, case.many)
            for lane, worths in enumerate(case.many):
                self.assertEqual(told[lane], run(case.program, case.which, worths)[0], case.shown)
                self.assertLessEqual(run_flat(case.program, case.which, worths)[1], steps, case.shown)

    def test_run_all_without_a_fault_does_the_work_of_all(self):
        for case in self.cases:
            told, steps, work, taken, deepest = run_all(case.program, case.which, case.many)
            if all(one[0] == "worth" for one in told):
                alone = [run(case.program, case.which, worths) for worths in case.many]
                self.assertEqual(work, sum(one[1] for one in alone), case.shown)
                self.assertEqual(deepest, tuple(map(max, zip(*[one[2] for one in alone]))), case.shown)

    def test_steps_are_never_more_than_the_bound(self):
        for case in self.cases:
            for many in (case.many[:1], case.many):
                told, steps, work, taken, deepest = run_all(case.program, case.which, many)
                self.assertLessEqual(steps, steps_at_most(case.program, list(deepest))[case.which], case.shown)

    def test_taken_is_never_more_than_the_bound(self):
        for case in self.cases:
            most = names_at_most(case.program)
            self.assertGreaterEqual(most, case.model.most_names)
            for many in (case.many[:1], case.many):
                told, steps, work, taken, deepest = run_all(case.program, case.which, many)
                self.assertLessEqual(taken, most * work, case.shown)

    def test_twice_the_lanes_take_no_more_steps(self):
        for case in self.cases:
            steps = run_flat(case.program, case.which, case.many[0])[1]
            for many in (2, 4):
                self.assertEqual(run_all(case.program, case.which, case.many[:1] * many)[1], steps, case.shown)

    def test_twice_the_items_take_no_more_steps(self):
        compared = 0
        for case in self.cases:
            if case.wanted[0] == 3 or case.alone[2] > 2000:
                continue
            arguments = tuple(("name", at) for at in range(len(case.wanted)))
            body = ("call", case.which, arguments)
            body = ("each", 0, ("name", 0), ("len", body) if case.depth == 3 else body)
            params = tuple((at, depth + (at == 0)) for at, depth in enumerate(case.wanted))
            program = case.program + ((params, min(case.depth + 1, 3) if case.depth < 3 else 1, body),)
            first, *rest = case.many[0]
            told = [run_flat(program, case.which + 1, [(first,) * items, *rest]) for items in (3, 6, 12)]
            self.assertEqual(told[1][1], told[0][1], case.shown)
            self.assertEqual(told[2][1], told[0][1], case.shown)
            compared += 1
        self.assertGreater(compared, 400)

    def test_trimmed_tells_the_same_by_no_more_steps(self):
        fewer = 0
        for case in self.cases:
            for worths in case.many:
                told, steps, *rest = run_flat(case.program, case.which, worths)
                short, few = run_trimmed(case.program, case.which, worths)
                self.assertEqual(short, told, case.shown)
                self.assertLessEqual(few, steps, case.shown)
                fewer += few < steps
        self.assertGreater(fewer, 50)

    def test_trimmed_leaves_out_rows_and_changes_nothing_else(self):
        fewer = 0
        for case in self.cases:
            for (rows, told), (left, still) in zip(flat(case.program), trimmed(case.program), strict=True):
                self.assertEqual(told, still)
                self.assertEqual(self.with_left(rows, list(registers(left))), left, case.shown)
                fewer += len(list(registers(left))) < len(list(registers(rows)))
        self.assertGreater(fewer, 50)

    def with_left(self, rows, left):
        """The rows whose register is left; the others must be such as may go."""
        kept = []
        for row in rows:
            if row[2] not in left:
                self.assertIn(row[0], "num plus minus times less same len sum sums one".split())
            elif row[0] == "if":
                kept.append(row[:5] + (self.with_left(row[5], left), row[6], self.with_left(row[7], left), row[8]))
            elif row[0] in ("each", "where"):
                kept.append(row[:7] + (self.with_left(row[7], left),) + row[8:])
            else:
                kept.append(row)
        return tuple(kept)

    def test_registers_are_numbered_as_they_are_made(self):
        for case in self.cases:
            for (params, _, body), (rows, told) in zip(case.program, flat(case.program), strict=True):
                made = list(registers(rows))
                self.assertEqual(made, sorted(set(made)), case.shown)
                items = str(body).count("('each'") + str(body).count("('where'")
                self.assertEqual(max([*made, len(params) - 1]) + 1, len(params) + len(made) + items, case.shown)

    def test_what_is_taken_in_rises(self):
        for case in self.cases:
            for rows, told in flat(case.program):
                for taken in taken_in(rows):
                    self.assertEqual(taken, tuple(sorted(set(taken))), case.shown)

    def test_what_is_written_is_read_to_the_same(self):
        for case in self.cases:
            self.assertEqual(read(written(case.program)), case.program)


if __name__ == "__main__":
    unittest.main()
