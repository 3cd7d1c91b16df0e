"""Rows lying in heaps, and what the rows of flat code do with them."""

from nestrows.deeds import deed_of
from nestrows.limits import MOST_DEPTH


class Heaps:
    """For each depth a heap in which the items of all rows of that depth lie.

    A row is told as (first, many): where its items begin in the heap of its
    depth, and how many they are. So a row is handed on without its items.
    """

    def __init__(self):
        self.heaps = [[] for depth in range(MOST_DEPTH + 1)]

    def lay(self, depth, row_items):
        """Put the items of a new row of this depth into its heap; tells the row."""
        heap = self.heaps[depth]
        first = len(heap)
        heap.extend(row_items)
        return (first, len(row_items))

    def lying(self, depth, row):
        """The items of a row of this depth, a list."""
        first, many = row
        return self.heaps[depth][first:first + many]

    def laid(self, depth, worth):
        """A worth of this depth, put into heaps."""
        if depth == 0:
            return worth
        return self.lay(depth, [self.laid(depth - 1, item) for item in worth])

    def lifted(self, depth, held):
        """The worth that was put into heaps."""
        if depth == 0:
            return held
        return tuple([self.lifted(depth - 1, item) for item in self.lying(depth, held)])


def length_of(row):
    return row[1]


# Each of these is handed the heaps, the depth of the first part (if the row tells it), and the parts.


def of_upto(heaps, depth, parts):
    return heaps.lay(1, list(range(parts[0])))


def of_len(heaps, depth, parts):
    return length_of(parts[0])


def of_sum(heaps, depth, parts):
    return deed_of("sum", [heaps.lying(1, parts[0])])


def of_sums(heaps, depth, parts):
    return heaps.lay(1, deed_of("sums", [heaps.lying(1, parts[0])]))


def of_one(heaps, depth, parts):
    return heaps.lay(depth + 1, parts)


def of_pick(heaps, depth, parts):
    first = parts[0][0]
    return heaps.heaps[depth][first + parts[1]]


def of_put(heaps, depth, parts):
    return heaps.lay(depth, heaps.lying(depth, parts[0]) + heaps.lying(depth, parts[1]))


def of_flat(heaps, depth, parts):
    rows = heaps.lying(depth, parts[0])
    return heaps.lay(depth - 1, [item for row in rows for item in heaps.lying(depth - 1, row)])


DEEDS = {
    "upto": of_upto, "len": of_len, "sum": of_sum, "sums": of_sums, "one": of_one,
    "pick": of_pick, "put": of_put, "flat": of_flat,
}


def deed_in_heaps(heaps, word, depth, parts):
    """What the row comes to in one lane; it must not fault there."""
    if word not in DEEDS:
        return deed_of(word, parts)
    deed = DEEDS[word]
    return deed(heaps, depth, parts)


def sizes_in_heaps(heaps, word, depth, parts):
    """How large the parts are, as sizes_of tells it of worths."""
    if word == "flat":
        return [sum([length_of(row) for row in heaps.lying(depth, parts[0])])]
    return [length_of(part) if isinstance(part, tuple) else part for part in parts]
