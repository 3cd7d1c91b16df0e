"""Programs told as flat code: rows of which each does one deed on all lanes at once."""

from nestrows.forms import forms_of, parts_ahead
from nestrows.rows import ITEM_WORDS, WITH_DEPTH, taken_in


class Coder:
    """Makes the flat code of one function; it has made so many registers."""

    def __init__(self, registers):
        self.registers = registers

    def new_one(self):
        """A new register."""
        self.registers += 1
        return self.registers - 1

    def block_of(self, node, names):
        """(rows, told register) of an expression; names has the registers of names."""
        rows = []
        told = self.add_rows(node, names, rows)
        return (tuple(rows), told)

    def add_rows(self, node, names, rows):
        """Add the rows of an expression; tells the register that holds what it comes to."""
        if node.word == "name":
            return names[node.number]
        if node.word == "let":
            named = self.add_rows(node.parts[0], names, rows)
            return self.add_rows(node.parts[1], {**names, node.number: named}, rows)
        parts = [self.add_rows(part, names, rows) for part in parts_ahead(node)]
        behind = self.row_end(node, names, parts)
        # The blocks are parts too, so their registers are made by now.
        into = self.new_one()
        rows.append((node.word, node.place, into) + behind)
        return into

    def row_end(self, node, names, parts):
        """What stands in the row behind its register; parts are registers."""
        if node.word == "num":
            return (node.number,)
        if node.word == "call":
            return (node.number, tuple(parts))
        if node.word == "if":
            return self.if_end(node, names, parts[0])
        if node.word in ITEM_WORDS:
            return self.items_end(node, names, parts[0])
        if node.word in WITH_DEPTH:
            return (*parts, node.parts[0].depth)
        return tuple(parts)

    def if_end(self, node, names, chosen):
        first = self.registers
        yes = self.block_of(node.parts[1], names)
        no = self.block_of(node.parts[2], names)
        return (chosen, taken_in([yes, no], first), *yes, *no)

    def items_end(self, node, names, row):
        item = self.new_one()
        body = self.block_of(node.parts[1], {**names, node.number: item})
        return (row, node.parts[0].depth, item, taken_in([body], item), *body, node.depth)


def code_of(form):
    """(rows, told register) of a function."""
    names = {name: at for at, name in enumerate(form.names)}
    coder = Coder(len(form.names))
    return coder.block_of(form.body, names)


def flat(program):
    """(rows, told register) of all functions, a list; BadProgram if it is none."""
    return [code_of(form) for form in forms_of(program)]
