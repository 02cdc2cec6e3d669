"""Whether any value is an integer, a number, a name or a lot of these."""

LETTERS = "abcdefghijklmnopqrstuvwxyz"
MOST_LETTERS = 5
MOST_NAMES = 6
MOST_ROWS = 60


def is_whole(value):
    """Whether any value is an integer."""
    return isinstance(value, int) and not isinstance(value, bool)


def is_number(value):
    """Whether any value is an integer from 0 on."""
    return is_whole(value) and value >= 0


def is_name(value):
    """Whether any value is a name."""
    if not isinstance(value, str) or not 1 <= len(value) <= MOST_LETTERS:
        return False
    return all([letter in LETTERS for letter in value])


def is_rising(values):
    """Whether each of some values that can be compared is above the one before it."""
    return all([one < other for one, other in zip(values, values[1:])])


def is_name_lot(value):
    """Whether any value is a lot of as many names as a system may have."""
    if not isinstance(value, tuple) or not 1 <= len(value) <= MOST_NAMES:
        return False
    return all([is_name(name) for name in value]) and is_rising(value)


def is_number_lot(value, size):
    """Whether any value is a lot of numbers below a size, perhaps empty."""
    if not isinstance(value, tuple) or not all([is_number(number) for number in value]):
        return False
    return is_rising(value) and all([number < size for number in value])
