"""What several tests need: numbers to try, values of any kind, and sums in Python's own fractions."""

from fractions import Fraction

from rowalone.fractions import fraction_of, less
from rowalone.nets import Net
from rowalone.systems import System, least_form, system_of

NAMES = ("a", "b", "c", "d", "e", "f")


class Dice:
    """Numbers that look like chance and are the same in each run and in each Python."""

    def __init__(self, seed):
        self.state = seed * 2654435761 + 12345

    def below(self, size):
        self.state = (self.state * 6364136223846793005 + 1442695040888963407) % 2 ** 64
        return (self.state >> 33) % size

    def between(self, low, high):
        return low + self.below(high - low + 1)

    def pick(self, some):
        return some[self.below(len(some))]

    def chance(self, part, whole):
        return self.below(whole) < part


class Anything:
    """An object that has the attributes of the program's own objects, with odd values."""

    def __init__(self):
        self.names = self.lines = self.sums = self.box = self.point = self.rows = self
        self.at = self.word = self.needs = self.one = self.other = self.paper = None


def odd_values():
    """Values of many kinds, none of which is a box, a point, a combination, a row or a lot."""
    return [
        None, True, False, 0, 1, -1, 7, 10 ** 30, 1.0, 0.5, float("nan"), 1j, "", "x", "xyz", "(0, 1)", b"", b"xy",
        [], {}, set(), frozenset(), [(0, 1)], {(0, 1): (0, 1)}, {"x": 1}, range(2), Ellipsis, len, int, System,
        Fraction(1, 2), object(), Anything(), Anything, [[]], iter(()), ValueError("x"), slice(1), memoryview(b"x"),
        (None, [], {}), (("x", 1),), ((True, False),), (1.0, 1.0), ("x", "y", "z", "x"), (([],),), ((((),),),),
        (Anything(), Anything()), (object(),), (float("nan"), 1), (b"x", b"y"),
    ]


def no_fractions():
    """Values that look like fractions and are none."""
    return [
        (True, 1), (1, True), (0, 2), (2, 4), (1, 0), (1, -1), (0, -1), (3, -3), (1.0, 1), (1, 1.0), [1, 1], (1,),
        (1, 1, 1), ("1", 1), (None, 1), (1, None), ((1,), 1), Fraction(1, 1), 1, 0, "1/1", {1: 1}, (False, 1),
    ]


def frac(value):
    """A fraction of the program as one of Python's, None as None."""
    return None if value is None else Fraction(value[0], value[1])


def pair(value):
    """The other way round."""
    return None if value is None else (value.numerator, value.denominator)


def sum_at(row, point):
    return sum((number * frac(value) for number, value in zip(row[0], point)), Fraction(0))


def is_kept(row, point):
    return sum_at(row, point) >= row[1]


def is_in(point, box):
    for value, (low, high) in zip(point, box):
        if low is not None and frac(value) < frac(low):
            return False
        if high is not None and frac(value) > frac(high):
            return False
    return True


def any_fraction(dice, size):
    return fraction_of(dice.between(-size, size), dice.between(1, size))


def any_box(dice, size, limit, part=6):
    """A box, each end there with `part` chances of ten."""
    box = []
    for _ in range(size):
        low = any_fraction(dice, limit) if dice.chance(part, 10) else None
        high = any_fraction(dice, limit) if dice.chance(part, 10) else None
        if low is not None and high is not None and less(high, low):
            low, high = high, low
        if low is not None and dice.chance(1, 8):
            high = low
        box.append((low, high))
    return tuple(box)


def any_row(dice, size, limit, bound):
    """A row in least form."""
    while True:
        numbers = tuple(dice.between(-limit, limit) if dice.chance(2, 3) else 0 for _ in range(size))
        row = least_form(numbers, dice.between(-bound, bound))
        if row is not None:
            return row


def any_system(dice, size, many, limit, bound):
    return system_of(NAMES[:size], tuple(any_row(dice, size, limit, bound) for _ in range(many)))


def loose_system(dice, size, many, limit, bound):
    """A system in which all points near 0 are solutions."""
    rows = (any_row(dice, size, limit, bound) for _ in range(many))
    return system_of(NAMES[:size], tuple((numbers, -abs(number) - 1) for numbers, number in rows))


def any_net(dice, most=6, limit=3, part=2):
    """A net with lines from nodes to themselves, double lines and nodes without a line."""
    size, nodes = dice.between(1, most), dice.between(1, 7)
    lines = tuple((dice.below(nodes), dice.below(nodes)) for _ in range(size))
    needs = []
    for _ in range(nodes):
        low = dice.between(-limit, limit) if dice.chance(part, 3) else None
        high = dice.between(-limit, limit) if dice.chance(part, 3) else None
        if low is not None and high is not None:
            low, high = min(low, high), max(low, high)
        needs.append((low, high))
    return Net(NAMES[:size], lines, tuple(needs))


def any_numbers(dice, many, limit, part=5):
    """A combination, each row used with `part` chances of ten."""
    found = []
    for _ in range(many):
        used = dice.chance(part, 10)
        found.append(fraction_of(dice.between(1, limit), dice.between(1, limit)) if used else (0, 1))
    return tuple(found)


def points_on_grid(size, values):
    """All points with some fractions."""
    points = [()]
    for _ in range(size):
        points = [(*point, value) for point in points for value in values]
    return points


def top_of(row, box):
    """The top of a row of integers or of Python's fractions, None if there is none."""
    total = Fraction(0)
    for number, (low, high) in zip(row[0], box):
        if number != 0:
            end = high if number > 0 else low
            if end is None:
                return None
            total += number * frac(end)
    return total


def is_barred(row, box):
    greatest = top_of(row, box)
    return greatest is not None and greatest < row[1]


def changed(items, at, item):
    """A tuple with another item at a place."""
    return items[:at] + (item,) + items[at + 1:]


def wide_rows(many):
    """Rows for two names with different slopes, as many as wanted and ascending."""
    return tuple(((1, number), 0) for number in range(many))


def raised(call, *values, **named):
    """The class and the attributes of the error that a call raises, None if it raises none."""
    try:
        call(*values, **named)
    except ValueError as error:
        return (type(error).__name__, *vars(error).values())
    return None


def wrong_boxes(size):
    """Values that are no box for so many names, each with what `InvalidBox` tells."""
    free = ((None, None),) * size
    found = [(value, -1) for value in odd_values() if not isinstance(value, tuple) or len(value) != size]
    found += [(free[1:], -1), (free + free[:1], -1), (list(free), -1)]
    crossed = [((1, 1), (0, 1)), ((True, 1), None), (None, (0, 2)), [None, None], (None,), (None, None, None), (0, 1)]
    for at in range(size):
        found += [(changed(free, at, item), at) for item in odd_values() + crossed]
    found.append((changed(changed(free, size - 1, None), 0, None), 0))
    return found


def wrong_combinations(many):
    """Values that are no combination of so many rows, at least one, each with what `InvalidPaper` tells."""
    none = ((0, 1),) * many
    found = [(value, -1) for value in odd_values() if not isinstance(value, tuple) or len(value) != many]
    found += [(none[1:], -1), (none + none[:1], -1), (list(none), -1)]
    for at in range(many):
        found += [(changed(none, at, item), at) for item in odd_values() + no_fractions() + [(-1, 1), (-1, 3)]]
    found.append((changed(changed(none, many - 1, (-1, 1)), 0, (-1, 1)), 0))
    return found


def given(system, numbers):
    """What a combination gives, in Python's own fractions."""
    coefficients = [sum((row[0][at] * frac(number) for row, number in zip(system.rows, numbers)), Fraction(0))
                    for at in range(len(system.names))]
    return coefficients, sum((row[1] * frac(number) for row, number in zip(system.rows, numbers)), Fraction(0))


def is_plain_in_python(system, numbers):
    """Whether no name has unlike signs in two used rows."""
    used = [row[0] for row, number in zip(system.rows, numbers) if number[0] > 0]
    return not any(min(column) < 0 < max(column) for column in zip(*used))


def without(items, at):
    """A tuple without the item at a place."""
    return items[:at] + items[at + 1:]
