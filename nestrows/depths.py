"""The depth that an expression comes to, by the depths of its parts."""

from nestrows.limits import MOST_DEPTH

NO_DEPTH = -1


def of_num(depths):
    return 0


def of_two_numbers(depths):
    return 0 if depths == [0, 0] else NO_DEPTH


def of_if(depths):
    chosen, yes, no = depths
    return yes if chosen == 0 and yes == no else NO_DEPTH


def of_let(depths):
    return depths[1]


def of_upto(depths):
    return 1 if depths == [0] else NO_DEPTH


def of_len(depths):
    return 0 if depths[0] >= 1 else NO_DEPTH


def of_sum(depths):
    return 0 if depths == [1] else NO_DEPTH


def of_sums(depths):
    return 1 if depths == [1] else NO_DEPTH


def of_one(depths):
    return depths[0] + 1 if depths[0] < MOST_DEPTH else NO_DEPTH


def of_pick(depths):
    row, number = depths
    return row - 1 if row >= 1 and number == 0 else NO_DEPTH


def of_put(depths):
    first, second = depths
    return first if first >= 1 and first == second else NO_DEPTH


def of_flat(depths):
    return depths[0] - 1 if depths[0] >= 2 else NO_DEPTH


# The row of each and where has its depth by then: it is looked at ahead of the body.


def of_each(depths):
    return depths[1] + 1 if depths[1] < MOST_DEPTH else NO_DEPTH


def of_where(depths):
    return depths[0] if depths[1] == 0 else NO_DEPTH


RULES = {
    "num": of_num,
    "plus": of_two_numbers, "minus": of_two_numbers, "times": of_two_numbers,
    "less": of_two_numbers, "same": of_two_numbers,
    "if": of_if, "let": of_let,
    "upto": of_upto, "len": of_len, "sum": of_sum, "sums": of_sums, "one": of_one,
    "pick": of_pick, "put": of_put, "flat": of_flat,
    "each": of_each, "where": of_where,
}


def depth_of(word, depths):
    """The depth of an expression other than name and call, NO_DEPTH if it can't have these parts."""
    rule = RULES[word]
    return rule(depths)
