"""Texts of systems."""

from rowalone.errors import InvalidText
from rowalone.kinds import MOST_NAMES, MOST_ROWS, is_name
from rowalone.systems import common_divisor, system_of

DIGITS = "0123456789"
GREATEST = 1000000
MOST_DIGITS = 7


def read_system(text, names=()):
    """The system of the rows of a text, with further names."""
    if not isinstance(text, str):
        raise InvalidText(-1)
    found = {name: True for name in names}
    patterns = {}
    told = []
    for at, line in enumerate(text.split("\n") if text else []):
        read = _read_line(line)
        if read is None:
            raise InvalidText(at)
        terms, relation, bound = read
        for name in terms:
            found[name] = True
        for sign in _signs_of(relation):
            patterns[_pattern(terms, sign)] = True
            told.append((terms, sign, bound))
        if len(found) > MOST_NAMES or len(patterns) > MOST_ROWS:
            raise InvalidText(at)
    if not found:
        raise InvalidText(0)
    lot = tuple(sorted(found))
    return system_of(lot, tuple([_row_over(lot, terms, sign, bound) for terms, sign, bound in told]))


def _row_over(lot, terms, sign, bound):
    """The row of terms and a bound, both times a sign, over a lot of names."""
    return (tuple([sign * terms.get(name, 0) for name in lot]), sign * bound)


def _signs_of(relation):
    """The signs of the rows that a line with a relation tells."""
    if relation == "=":
        return (1, -1)
    return (1,) if relation == ">=" else (-1,)


def _pattern(terms, sign):
    """What two rows have alike exactly if their coefficients differ by a factor above 0."""
    divisor = sign * common_divisor(list(terms.values()))
    return tuple(sorted([(name, number // divisor) for name, number in terms.items()]))


def _read_line(line):
    """The terms, the relation and the integer of a line, None if it is no line."""
    for at, sign in enumerate(line):
        if sign in "<=>":
            relation = "=" if sign == "=" else line[at:at + 2]
            terms = _read_terms(line[:at])
            bound = _read_integer(line[at + len(relation):].strip(" "))
            if relation not in ("=", "<=", ">=") or terms is None or bound is None:
                return None
            return (terms, relation, bound)
    return None


def _read_terms(text):
    """A dict with the coefficient of each name, None if the text is no sequence of terms."""
    parts = [part for part in text.replace("+", " + ").replace("-", " - ").split(" ") if part]
    terms = {}
    at = 0
    while at < len(parts):
        sign = -1 if parts[at] == "-" else 1
        if parts[at] in ("+", "-"):
            at += 1
        elif terms:
            return None
        number = _read_number(parts[at]) if at < len(parts) else None
        if number is not None:
            at += 1
        if at == len(parts) or not is_name(parts[at]) or parts[at] in terms:
            return None
        terms[parts[at]] = sign if number is None else sign * number
        at += 1
    return terms if terms else None


def _read_number(text):
    """The number from 1 to 10^6 that a text writes, None if it writes none."""
    if not 1 <= len(text) <= MOST_DIGITS or not all([digit in DIGITS for digit in text]):
        return None
    number = int(text)
    return number if text[0] != "0" and number <= GREATEST else None


def _read_integer(text):
    """The integer from -10^6 to 10^6 that a text writes, None if it writes none."""
    if text == "0":
        return 0
    if not text.startswith("-"):
        return _read_number(text)
    number = _read_number(text[1:])
    return None if number is None else -number


def show_row(names, row):
    """The line of a row."""
    parts = []
    for name, number in zip(names, row[0]):
        if number != 0:
            term = name if abs(number) == 1 else f"{abs(number)} {name}"
            if not parts:
                parts.append(f"-{term}" if number < 0 else term)
            else:
                parts.append(f"- {term}" if number < 0 else f"+ {term}")
    return " ".join([*parts, f">= {row[1]}"])


def show_system(system):
    """The text with the lines of the rows of a system."""
    return "\n".join([show_row(system.names, row) for row in system.rows])
