"""Programs run element by element."""

from nestrows.deeds import deed_of, fault_of, items_of, sizes_of
from nestrows.forms import forms_of, parts_ahead
from nestrows.limits import MOST_CALLS
from nestrows.worths import refuse_bad_worths, refuse_no_function


class Run:
    """A run under way.

    What is still to do lies on a stack of its own, as calls within one another
    and expressions within these may lie deeper than calls may in Python. Each
    entry is (step, node, held): begin and finish hold what names stand for,
    gather the row that is gone over, leave the function that was called.
    """

    def __init__(self, forms):
        self.forms = forms
        self.todo = []
        self.made = []
        self.work = 0
        self.fault = None
        self.within = [0] * len(forms)
        self.deepest = [0] * len(forms)

    def go_on(self):
        """Do what is to do, the last first, up to the end or a fault."""
        while self.todo and self.fault is None:
            step, node, held = self.todo.pop()
            if step == "begin":
                self.begin(node, held)
            elif step == "finish":
                self.finish(node, held)
            elif step == "gather":
                self.gather(node, held)
            else:
                self.within[held] -= 1

    def outcome(self):
        """What run tells of it at its end."""
        if self.fault is None:
            return ("worth", self.made[0])
        return self.fault

    def take(self, many):
        """The worths that were made last, so many."""
        first = len(self.made) - many
        taken = self.made[first:]
        del self.made[first:]
        return taken

    def begin(self, node, names):
        if node.word == "name":
            self.made.append(names[node.number])
        elif node.word == "num":
            self.work += 1
            self.made.append(node.number)
        else:
            self.todo.append(("finish", node, names))
            parts = parts_ahead(node)
            for part in reversed(parts):
                self.todo.append(("begin", part, names))

    def finish(self, node, names):
        """Do with the worths of the parts what the expression does."""
        parts = self.take(len(parts_ahead(node)))
        if node.word == "let":
            self.todo.append(("begin", node.parts[1], {**names, node.number: parts[0]}))
        elif node.word == "if":
            self.work += 1
            block = node.parts[1] if parts[0] != 0 else node.parts[2]
            self.todo.append(("begin", block, names))
        elif node.word in ("each", "where"):
            self.go_over(node, names, parts[0])
        elif node.word == "call":
            self.call(node, parts)
        else:
            self.do_deed(node, parts)

    def go_over(self, node, names, row):
        self.work += 1 + len(row)
        self.todo.append(("gather", node, row))
        for item in reversed(row):
            self.todo.append(("begin", node.parts[1], {**names, node.number: item}))

    def gather(self, node, row):
        """Make a row of what the body came to for each item of the row, or of the items it kept."""
        came = self.take(len(row))
        if node.word == "each":
            self.made.append(tuple(came))
        else:
            self.made.append(tuple([item for item, kept in zip(row, came) if kept != 0]))

    def call(self, node, worths):
        self.work += 1
        if self.within[node.number] == MOST_CALLS:
            self.fault = ("fault", "deep", node.function, node.place)
        else:
            self.enter(node.number, worths)

    def enter(self, which, worths):
        form = self.forms[which]
        self.within[which] += 1
        self.deepest[which] = max(self.deepest[which], self.within[which])
        self.todo.append(("leave", form.body, which))
        self.todo.append(("begin", form.body, dict(zip(form.names, worths))))

    def do_deed(self, node, parts):
        self.work += 1
        sizes = sizes_of(node.word, parts)
        word = fault_of(node.word, sizes)
        if word is None:
            self.work += items_of(node.word, sizes)
            self.made.append(deed_of(node.word, parts))
        else:
            self.fault = ("fault", word, node.function, node.place)


def run(program, which, worths):
    """(told, work, deepest) of a function's run on a list of worths.

    BadProgram, NoFunction and BadWorth are refused, in this order.
    """
    forms = forms_of(program)
    refuse_no_function(forms, which)
    refuse_bad_worths(forms[which].depths, worths)
    going = Run(forms)
    going.enter(which, worths)
    going.go_on()
    return (going.outcome(), going.work, tuple(going.deepest))
