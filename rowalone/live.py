"""A system and a box that change, and the rows that were learned on the way."""

from rowalone.bars import barring, bars_box
from rowalone.boxes import check_box, is_range, with_range
from rowalone.errors import InvalidNumber, Refused
from rowalone.fractions import is_fraction
from rowalone.kinds import MOST_ROWS, is_number
from rowalone.learning import learned_row, taught
from rowalone.outer import is_outer_row
from rowalone.systems import System, is_row, left_out, unknown_of


class Live:
    """Given rows and a box that can be changed and changed back, and the rows that were ever learned."""

    def __init__(self, system, box):
        check_box(system, box)
        # What is given and the box after each change that has not been taken back.
        self._states = [(system, box)]
        # All rows ever learned: none twice, as a row that is of the least system now is present.
        self._known = []

    def put_end(self, name, side, value):
        """Replace the low (0) or high (1) of an unknown."""
        system, box = self._states[-1]
        at = unknown_of(system, name)
        if not is_number(side) or side > 1:
            raise InvalidNumber("side")
        if value is not None and not is_fraction(value):
            raise InvalidNumber("value")
        low, high = box[at]
        ends = (value, high) if side == 0 else (low, value)
        if not is_range(ends):
            raise Refused("crossed")
        self._states.append((system, with_range(box, at, ends)))

    def put_row(self, row):
        """Add a given row and return its number."""
        system, box = self._states[-1]
        if not is_row(row, len(system.names)) or row in system.rows:
            raise Refused("row")
        if len(system.rows) == MOST_ROWS:
            raise Refused("wide")
        rows = tuple(sorted((*system.rows, row)))
        self._states.append((System(system.names, rows), box))
        return rows.index(row)

    def strike_row(self, number):
        """Strike the given row with a number and return it."""
        system, box = self._states[-1]
        if not is_number(number) or number >= len(system.rows):
            raise InvalidNumber("number")
        self._states.append((System(system.names, left_out(system.rows, number)), box))
        return system.rows[number]

    def undo(self):
        """Take back the last change that has not been taken back."""
        if len(self._states) == 1:
            raise Refused("undo")
        self._states.pop()

    def changes(self):
        """How many changes have not been taken back."""
        return len(self._states) - 1

    def given(self):
        """The system of the given rows."""
        return self._states[-1][0]

    def ends_now(self):
        """The box."""
        return self._states[-1][1]

    def learned(self):
        """The lot of the learned rows that are of the least single system of the given rows, and not given."""
        system = self.given()
        return tuple(sorted([row for row in self._known if row not in system.rows and is_outer_row(system, row)]))

    def present(self):
        """The system of the given rows and those learned."""
        rows = self.given().rows + self.learned()
        if len(rows) > MOST_ROWS:
            raise Refused("wide")
        return System(self.given().names, tuple(sorted(rows)))

    def learn(self):
        """What the box teaches, which is learned if it is a row."""
        row = learned_row(self.present(), self.ends_now())
        if row is not None:
            self._known.append(row)
        return row

    def solve(self, order, wishes):
        """The solution in the box nearest to the wishes, None if there is none; what it takes is learned."""
        rows, point = taught(self.present(), self.ends_now(), order, wishes)
        self._known.extend(rows)
        return point

    def steps_back(self):
        """The least number of changes to take back until no given or learned row bars the box, None if none is."""
        for many, (system, box) in enumerate(reversed(self._states)):
            if not self._is_barred(system, box):
                return many
        return None

    def _is_barred(self, system, box):
        """Whether a given row bars a box, or a learned one that the given rows would still have."""
        rows = [row for row in self._known if bars_box(row, box)]
        return len(barring(system, box)) > 0 or any([is_outer_row(system, row) for row in rows])
