"""How much the flat machine does at the most, and flat code without rows that are of no use."""

from nestrows.flatcode import code_of, flat
from nestrows.machine import good_forms, run_code
from nestrows.rows import all_rows, blocks_of, looks_at, taken_by

# Rows of these words can't fault and have no blocks, so nothing is missed if none looks at what they come to.
MAY_GO = ("num", "plus", "minus", "times", "less", "same", "len", "sum", "sums", "one")


def steps_at_most(program, deepest):
    """For each function how many steps a call does at the most, if functions call themselves so deep."""
    told = []
    for at, code in enumerate(flat(program)):
        steps = 0
        for row in all_rows(code[0]):
            steps += 1
            if row[0] == "call" and row[3] != at:
                steps += told[row[3]]
        told.append(deepest[at] * steps)
    return told


def names_at_most(program):
    """The most names that a block takes in."""
    most = 0
    for code in flat(program):
        for row in all_rows(code[0]):
            most = max(most, len(taken_by(row)))
    return most


def trimmed_block(code):
    """A block without the rows at which nothing looks."""
    rows, told = code
    seen = [told]
    left = []
    for row in reversed(rows):
        if row[0] not in MAY_GO or row[2] in seen:
            seen.extend(looks_at(row))
            left.append(trimmed_row(row))
    return (tuple(reversed(left)), told)


def trimmed_row(row):
    """A row with its blocks trimmed; what these take in stays."""
    inner = [trimmed_block(code) for code in blocks_of(row)]
    if row[0] == "if":
        return row[:5] + inner[0] + inner[1]
    if inner:
        return row[:7] + inner[0] + row[9:]
    return row


def trimmed(program):
    """(rows, told register) of all functions, as flat tells them, without rows that are of no use."""
    return [trimmed_block(code) for code in flat(program)]


def run_trimmed(program, which, worths):
    """(told, steps) of a function's run by trimmed code.

    BadProgram, NoFunction and BadWorth are refused, in this order.
    """
    forms = good_forms(program, which, [worths])
    code = [trimmed_block(code_of(form)) for form in forms]
    answer = run_code(forms, code, which, [worths])
    return (answer[0][0], answer[1])
