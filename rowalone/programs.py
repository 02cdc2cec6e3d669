"""Least sums over the points that keep some rows, by exchanges in a table of integers."""

from rowalone.fractions import fraction_of, less, weighed

QUICK = 200


class Table:
    """Rows, and the sum that is asked for, as sums of as many rows as there are unknowns.

    Label k from 0 on stands for what row k has above its bound, which is never below 0 at
    points that keep the row; label k below 0 stands for the unknown `size` + k. Each line
    of `lines` is what its label in `basic` is, and `goal` what is asked for, times `scale`:
    an integer for each label in `free`, and one more alone. The point of the table has 0
    for all labels in `free`.
    """

    def __init__(self, size, rows, goal):
        self.size = size
        self.many = len(rows)
        self.free = [at - size for at in range(size)]
        self.basic = list(range(len(rows)))
        self.lines = [[*coefficients, -bound] for coefficients, bound in rows]
        self.goal = [*goal, 0]
        self.scale = 1

    def exchange(self, line, column):
        """Let the label of a line and the one of a column change places."""
        pivots = self.lines[line]
        sign = 1 if pivots[column] > 0 else -1
        lines = [self._exchanged(numbers, pivots, column, sign) for numbers in self.lines]
        lines[line] = [-sign * number for number in pivots]
        lines[line][column] = sign * self.scale
        self.goal = self._exchanged(self.goal, pivots, column, sign)
        self.lines = lines
        self.scale = sign * pivots[column]
        self.basic[line], self.free[column] = self.free[column], self.basic[line]

    def _exchanged(self, numbers, pivots, column, sign):
        """A line after an exchange in another one; the division leaves no rest."""
        factor = sign * numbers[column]
        pivot = sign * pivots[column]
        changed = []
        for number, other in zip(numbers, pivots):
            changed.append((pivot * number - factor * other) // self.scale)
        changed[column] = factor
        return changed

    def place_unknowns(self):
        """Exchange each unknown that a row has, which leaves it no column."""
        for column in range(self.size):
            line = self._line_with(column)
            if line is not None:
                self.exchange(line, column)

    def _line_with(self, column):
        """The line of the first row with a number in a column, None if there is none."""
        for line, label in enumerate(self.basic):
            if label >= 0 and self.lines[line][column] != 0:
                return line
        return None

    def broken_line(self):
        """The line of the first row that the point does not keep, None if there is none."""
        found = None
        for line, label in enumerate(self.basic):
            if label >= 0 and self.lines[line][-1] < 0:
                if found is None or label < self.basic[found]:
                    found = line
        return found

    def worst_line(self):
        """The line of the row that the point breaks most, None if there is none."""
        found = None
        for line, label in enumerate(self.basic):
            if label >= 0 and self.lines[line][-1] < 0:
                if found is None or self.lines[line][-1] < self.lines[found][-1]:
                    found = line
        return found

    def greatest_column(self, numbers, sign):
        """The column of the row with the greatest number in a line, times a sign, None if none is above 0."""
        found = None
        for column, label in enumerate(self.free):
            if label >= 0 and sign * numbers[column] > 0:
                if found is None or sign * numbers[column] > sign * numbers[found]:
                    found = column
        return found

    def first_column(self, numbers, sign):
        """The column of the first row with a number of this sign in a line, None if there is none."""
        found = None
        for column, label in enumerate(self.free):
            if label >= 0 and sign * numbers[column] > 0:
                if found is None or label < self.free[found]:
                    found = column
        return found

    def tight_line(self, column):
        """The line of the row that is first broken if a column grows, None if none is."""
        found = None
        for line, label in enumerate(self.basic):
            if label >= 0 and self.lines[line][column] < 0:
                if found is None or self._is_before(line, found, column):
                    found = line
        return found

    def _is_before(self, line, other, column):
        """Whether the row of a line is broken before the one of another line, or has a lesser label."""
        one = self.lines[line][-1] * self.lines[other][column]
        two = self.lines[other][-1] * self.lines[line][column]
        # Both numbers in the column are below 0: the greater product has the lesser quotient.
        return one > two or (one == two and self.basic[line] < self.basic[other])

    def point(self):
        """The point of the table."""
        point = [(0, 1)] * self.size
        for line, label in enumerate(self.basic):
            if label < 0:
                # A label below 0 is also the place of its unknown, counted from the end.
                point[label] = fraction_of(self.lines[line][-1], self.scale)
        return tuple(point)

    def shares(self, numbers, sign):
        """For each row the number that its column has in a line, times a sign, as a fraction."""
        found = [(0, 1)] * self.many
        for column, label in enumerate(self.free):
            if label >= 0:
                found[label] = fraction_of(sign * numbers[column], self.scale)
        return found


def point_or_shares(size, rows):
    """("point", point) with a point that keeps all rows, or ("shares", shares) with fractions
    from 0 on, with which the rows sum to 0 at least a number above 0."""
    table = Table(size, rows, [0] * size)
    line = _make_kept(table)
    if line is None:
        return ("point", table.point())
    return ("shares", _broken_shares(table, line))


def least_over(size, rows, goal):
    """The least sum of integer coefficients over the points that keep all rows, in a tuple:
    ("least", point, shares), ("endless", point, None) or ("none", None, shares)."""
    table = Table(size, rows, goal)
    line = _make_kept(table)
    if line is not None:
        return ("none", None, _broken_shares(table, line))
    for column, label in enumerate(table.free):
        if label < 0 and table.goal[column] != 0:
            return ("endless", table.point(), None)
    done = 0
    while True:
        column = _column(table, table.goal, -1, done)
        if column is None:
            return ("least", table.point(), tuple(table.shares(table.goal, 1)))
        line = table.tight_line(column)
        if line is None:
            return ("endless", table.point(), None)
        table.exchange(line, column)
        done = done + 1


def _column(table, numbers, sign, done):
    """The column to exchange after so many exchanges.

    The greatest number is mostly the quickest way, but only the first label is sure to end.
    """
    if done < QUICK:
        return table.greatest_column(numbers, sign)
    return table.first_column(numbers, sign)


def point_beyond(size, rows, row):
    """Some point that keeps all rows and not another one, None if there is none."""
    coefficients, bound = row
    word, point, _ = least_over(size, rows, coefficients)
    if word == "endless":
        # One less than the bound is below it, and there is no least sum.
        contrary = (tuple([-number for number in coefficients]), 1 - bound)
        return point_or_shares(size, [*rows, contrary])[1]
    return point if word == "least" and less(weighed(coefficients, point), (bound, 1)) else None


def _make_kept(table):
    """Exchange until the point keeps all rows: None, or the line of a row that never is kept."""
    table.place_unknowns()
    done = 0
    while True:
        line = table.worst_line() if done < QUICK else table.broken_line()
        if line is None:
            return None
        column = _column(table, table.lines[line], 1, done)
        if column is None:
            return line
        table.exchange(line, column)
        done = done + 1


def _broken_shares(table, line):
    """The fractions with which rows sum to what no point keeps."""
    shares = table.shares(table.lines[line], -1)
    shares[table.basic[line]] = (1, 1)
    return tuple(shares)
