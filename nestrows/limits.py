"""How large numbers, rows and programs may be."""

DIVISOR = 10007
LAST_NUMBER = DIVISOR - 1
MOST_ITEMS = 40
MOST_DEPTH = 3

MOST_FUNCTIONS = 6
MOST_PARAMS = 4
LAST_NAME = 19
LAST_PLACE = 59
MOST_WITHIN = 12

MOST_CALLS = 30


def is_number(value, last):
    """Whether the value is a whole number from 0 to the last one."""
    if not isinstance(value, int) or isinstance(value, bool):
        return False
    return 0 <= value <= last
