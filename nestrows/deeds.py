"""What expressions without blocks do with the worths of their parts."""

from nestrows.limits import DIVISOR, MOST_ITEMS


def plus(parts):
    return (parts[0] + parts[1]) % DIVISOR


def minus(parts):
    return (parts[0] - parts[1]) % DIVISOR


def times(parts):
    return (parts[0] * parts[1]) % DIVISOR


def less(parts):
    return 1 if parts[0] < parts[1] else 0


def same(parts):
    return 1 if parts[0] == parts[1] else 0


def upto(parts):
    return tuple(range(parts[0]))


def length(parts):
    return len(parts[0])


def total(parts):
    return sum(parts[0]) % DIVISOR


def sums(parts):
    ahead = 0
    made = []
    for item in parts[0]:
        made.append(ahead)
        ahead = (ahead + item) % DIVISOR
    return tuple(made)


def one(parts):
    return (parts[0],)


def pick(parts):
    return parts[0][parts[1]]


def put(parts):
    return parts[0] + parts[1]


def flat_row(parts):
    return tuple([item for row in parts[0] for item in row])


DEEDS = {
    "plus": plus, "minus": minus, "times": times, "less": less, "same": same,
    "upto": upto, "len": length, "sum": total, "sums": sums, "one": one,
    "pick": pick, "put": put, "flat": flat_row,
}


def fault_of(word, parts):
    """The word of the fault that the deed would end in, None if it can be done."""
    if word == "pick":
        return None if parts[1] < len(parts[0]) else "beyond"
    many = 0
    if word == "upto":
        many = parts[0]
    elif word == "put":
        many = len(parts[0]) + len(parts[1])
    elif word == "flat":
        many = sum([len(row) for row in parts[0]])
    return None if many <= MOST_ITEMS else "many"


def deed_of(word, parts):
    """What the expression comes to; it must not fault."""
    deed = DEEDS[word]
    return deed(parts)


def items_of(word, parts, worth):
    """How many items the deed has made or added that count as work."""
    if word == "sum":
        return len(parts[0])
    if word in ("upto", "sums", "one", "put", "flat"):
        return len(worth)
    return 0
