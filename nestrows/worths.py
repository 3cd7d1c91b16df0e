"""What is handed to a run: a function's number and its worths."""

from nestrows.errors import BadWorth, NoFunction
from nestrows.limits import LAST_NUMBER, MOST_ITEMS, is_number


def is_worth(value, depth):
    if depth == 0:
        return is_number(value, LAST_NUMBER)
    if not isinstance(value, tuple) or len(value) > MOST_ITEMS:
        return False
    return all([is_worth(item, depth - 1) for item in value])


def refuse_no_function(forms, which):
    if not is_number(which, len(forms) - 1):
        raise NoFunction("the program has no such function")


def refuse_bad_worths(depths, worths):
    """BadWorth of the first worth that can't be, lacks or is too much for params of these depths."""
    for number in range(max(len(depths), len(worths))):
        if number >= len(worths) or number >= len(depths):
            raise BadWorth(number)
        if not is_worth(worths[number], depths[number]):
            raise BadWorth(number)
