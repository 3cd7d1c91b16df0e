"""The flat machine: flat code done row by row, on all lanes at once."""

from nestrows.deeds import fault_of, items_of
from nestrows.flatcode import code_of
from nestrows.forms import forms_of
from nestrows.heaps import Heaps, deed_in_heaps, sizes_in_heaps
from nestrows.limits import MOST_CALLS
from nestrows.rows import ITEM_WORDS, blocks_of, looks_at, taken_by
from nestrows.worths import refuse_bad_worths, refuse_no_function


class Block:
    """A block under way: a called function's rows, or those of a block in a row.

    columns has for each register what it holds, lane by lane. lanes has for
    each lane the one of the outer block that it belongs to, opener the row
    there; the outermost block has neither an outer one nor an opener.
    """

    def __init__(self, function, code, columns, lanes, outer, opener):
        self.function = function
        self.rows = code[0]
        self.told = code[1]
        self.columns = columns
        self.lanes = lanes
        self.outer = outer
        self.opener = opener
        self.next_row = 0
        self.going = list(range(len(lanes)))
        self.faults = {}

    def is_done(self):
        return not self.going or self.next_row == len(self.rows)

    def came_to(self, lane):
        """What the block tells in a lane that goes on at its end."""
        return self.columns[self.told][lane]

    def new_column(self, row):
        """The column into which the row comes, still empty."""
        column = [0] * len(self.lanes)
        self.columns[row[2]] = column
        return column

    def leave_out(self, faults):
        """Lanes fault: they go on no more."""
        if faults:
            self.faults.update(faults)
            self.going = [lane for lane in self.going if lane not in faults]

    def fault_of_lane(self, row, word):
        return ("fault", word, self.function, row[1])


class Machine:
    """Flat code of all functions, and what was counted as it was run.

    Blocks under way lie on a stack of its own, as calls and blocks within one
    another may lie deeper than calls may in Python.
    """

    def __init__(self, code):
        self.code = code
        self.heaps = Heaps()
        self.blocks = []
        self.steps = 0
        self.work = 0
        self.taken = 0
        self.within = [0] * len(code)
        self.deepest = [0] * len(code)

    def go_on(self):
        """Do rows until nothing is under way."""
        while self.blocks:
            block = self.blocks[-1]
            if block.is_done():
                self.blocks.pop()
                self.close(block)
            else:
                self.do_row(block)

    def do_row(self, block):
        """Do the next row of a block for all its lanes that go on."""
        row = block.rows[block.next_row]
        block.next_row += 1
        self.steps += 1
        self.work += len(block.going)
        if row[0] == "if":
            self.do_if(block, row)
        elif row[0] in ITEM_WORDS:
            self.go_over(block, row)
        elif row[0] == "call":
            self.do_call(block, row)
        else:
            self.do_deed(block, row)

    def do_deed(self, block, row):
        if row[0] == "num":
            block.columns[row[2]] = [row[3]] * len(block.lanes)
            return
        columns = [block.columns[at] for at in looks_at(row)]
        # The deeds that need a depth have it last in their row; the others do not look at it.
        word, depth, column = row[0], row[-1], block.new_column(row)
        faults = {}
        for lane in block.going:
            parts = [looked_at[lane] for looked_at in columns]
            sizes = sizes_in_heaps(self.heaps, word, depth, parts)
            fault = fault_of(word, sizes)
            if fault is None:
                self.work += items_of(word, sizes)
                column[lane] = deed_in_heaps(self.heaps, word, depth, parts)
            else:
                faults[lane] = block.fault_of_lane(row, fault)
        block.leave_out(faults)

    def do_if(self, block, row):
        chosen = block.columns[row[3]]
        yes, no = blocks_of(row)
        block.new_column(row)
        # What is opened last is done first.
        self.enter_block(block, row, no, [lane for lane in block.going if chosen[lane] == 0], {})
        self.enter_block(block, row, yes, [lane for lane in block.going if chosen[lane] != 0], {})

    def go_over(self, block, row):
        """Make all items of all rows lanes of one block."""
        gone_over, depth = block.columns[row[3]], row[4]
        lanes, found = [], []
        for lane in block.going:
            lying = self.heaps.lying(depth, gone_over[lane])
            found.extend(lying)
            lanes.extend([lane] * len(lying))
        self.work += len(found)
        block.new_column(row)
        self.enter_block(block, row, blocks_of(row)[0], lanes, {row[5]: found})

    def enter_block(self, block, row, code, lanes, columns):
        """Begin a block of a row, on these lanes of the block outside."""
        taken = taken_by(row)
        self.taken += len(taken) * len(lanes)
        for at in taken:
            outside = block.columns[at]
            columns[at] = [outside[lane] for lane in lanes]
        self.blocks.append(Block(block.function, code, columns, lanes, block, row))

    def do_call(self, block, row):
        if self.within[row[3]] == MOST_CALLS:
            fault = block.fault_of_lane(row, "deep")
            block.leave_out({lane: fault for lane in block.going})
            return
        block.new_column(row)
        handed = [[block.columns[at][lane] for lane in block.going] for at in row[4]]
        self.enter_function(row[3], handed, list(block.going), block, row)

    def enter_function(self, which, handed, lanes, outer, opener):
        """Begin a function; handed has a column for each param."""
        self.within[which] += 1
        self.deepest[which] = max(self.deepest[which], self.within[which])
        columns = dict(enumerate(handed))
        self.blocks.append(Block(which, self.code[which], columns, lanes, outer, opener))

    def close(self, block):
        """Hand what a block came to over to the block outside."""
        if block.outer is None:
            return
        word = block.opener[0]
        if word == "call":
            self.within[block.function] -= 1
        handed_on = {}
        # In the order of lanes, so that of an outer lane's items the first one's fault is kept.
        for lane in sorted(block.faults):
            handed_on.setdefault(block.lanes[lane], block.faults[lane])
        block.outer.leave_out(handed_on)
        if word in ITEM_WORDS:
            self.gather(block)
        else:
            column = block.outer.columns[block.opener[2]]
            for lane in block.going:
                column[block.lanes[lane]] = block.came_to(lane)

    def gather(self, block):
        """Make rows of what came of the items of each lane outside, or of the items that are kept."""
        row, outer = block.opener, block.outer
        made = {lane: [] for lane in outer.going}
        for lane in block.going:
            came, owner = block.came_to(lane), block.lanes[lane]
            if owner in made and row[0] == "each":
                made[owner].append(came)
            elif owner in made and came != 0:
                made[owner].append(block.columns[row[5]][lane])
        column = outer.columns[row[2]]
        for lane in outer.going:
            column[lane] = self.heaps.lay(row[9], made[lane])


def good_forms(program, which, many):
    """The forms of a program; refused are BadProgram, NoFunction, then BadWorth by the first of the lists."""
    forms = forms_of(program)
    refuse_no_function(forms, which)
    for worths in many:
        refuse_bad_worths(forms[which].depths, worths)
    return forms


def run_code(forms, code, which, many):
    """(told, steps, work, taken, deepest) of flat code run on lists of worths, one for each lane."""
    machine = Machine(code)
    told = []
    if many:
        form = forms[which]
        heaps = machine.heaps
        handed = [[heaps.laid(depth, worths[at]) for worths in many] for at, depth in enumerate(form.depths)]
        machine.enter_function(which, handed, list(range(len(many))), None, None)
        outermost = machine.blocks[0]
        machine.go_on()
        told = [outcome(outermost, heaps, form.body.depth, lane) for lane in range(len(many))]
    return (told, machine.steps, machine.work, machine.taken, tuple(machine.deepest))


def outcome(block, heaps, depth, lane):
    """What is told of a lane of the outermost block at its end."""
    if lane in block.faults:
        return block.faults[lane]
    return ("worth", heaps.lifted(depth, block.came_to(lane)))


def run_all(program, which, many):
    """(told, steps, work, taken, deepest) of a function's flat run on lists of worths; told is a list.

    BadProgram, NoFunction and BadWorth are refused, in this order.
    """
    forms = good_forms(program, which, many)
    return run_code(forms, [code_of(form) for form in forms], which, many)


def run_flat(program, which, worths):
    """(told, steps, work, taken, deepest) of a function's flat run on a list of worths; refused as in run_all."""
    told, steps, work, taken, deepest = run_all(program, which, [worths])
    return (told[0], steps, work, taken, deepest)
