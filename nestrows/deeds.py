"""What expressions without blocks do with the worths of their parts."""

from nestrows.limits import DIVISOR, MOST_ITEMS


def plus(parts):
    return (parts[0] + parts[1]) % DIVISOR


def minus(parts):
    return (parts[0] - parts[1]) % DIVISOR


def times(parts):
    return (parts[0] * parts[1]) % DIVISOR


def less(parts):
    return 1 if parts[0] < parts[1] else 0


def same(parts):
    return 1 if parts[0] == parts[1] else 0


def upto(parts):
    return tuple(range(parts[0]))


def length(parts):
    return len(parts[0])


def total(parts):
    return sum(parts[0]) % DIVISOR


def sums(parts):
    ahead = 0
    made = []
    for item in parts[0]:
        made.append(ahead)
        ahead = (ahead + item) % DIVISOR
    return tuple(made)


def one(parts):
    return (parts[0],)


def pick(parts):
    return parts[0][parts[1]]


def put(parts):
    return parts[0] + parts[1]


def flat_row(parts):
    return tuple([item for row in parts[0] for item in row])


DEEDS = {
    "plus": plus, "minus": minus, "times": times, "less": less, "same": same,
    "upto": upto, "len": length, "sum": total, "sums": sums, "one": one,
    "pick": pick, "put": put, "flat": flat_row,
}


def sizes_of(word, parts):
    """How large the parts are: a number as it is, a row by its items, of flat by the items of these."""
    if word == "flat":
        return [sum([len(row) for row in parts[0]])]
    return [len(part) if isinstance(part, tuple) else part for part in parts]


def fault_of(word, sizes):
    """The word of the fault that the deed would end in by the sizes of its parts, None if it can be done."""
    if word == "pick":
        return None if sizes[1] < sizes[0] else "beyond"
    if word in ("upto", "put", "flat") and sum(sizes) > MOST_ITEMS:
        return "many"
    return None


def items_of(word, sizes):
    """How many items that count as work the deed makes or adds, by the sizes of its parts."""
    if word == "one":
        return 1
    if word in ("upto", "sum", "sums", "put", "flat"):
        return sum(sizes)
    return 0


def deed_of(word, parts):
    """What the expression comes to; it must not fault."""
    deed = DEEDS[word]
    return deed(parts)
