"""Point [10]: texts."""

import unittest

from rowalone.systems import System, system_of
from rowalone.texts import read_system, show_row, show_system
from tests.helpers import Dice, any_system, odd_values, raised

GOOD = "x - y >= 0"


def line_of(number):
    """A row whose slope is like that of no other number."""
    return f"x + {number} y >= 0" if number > 1 else "x + y >= 0"


class Reading(unittest.TestCase):

    def test_example(self):
        system = read_system("2 y-4  x>=6\nx <= 3\nx = 1", ("z",))
        self.assertEqual(show_system(system), "-2 x + y >= 3\n-x >= -1\nx >= 1")
        self.assertEqual(system.names, ("x", "y", "z"))

    def test_relations(self):
        self.assertEqual(read_system("x + 2 y >= 3"), System(("x", "y"), (((1, 2), 3),)))
        self.assertEqual(read_system("x + 2 y <= 3"), System(("x", "y"), (((-1, -2), -3),)))
        self.assertEqual(read_system("x + 2 y = 3"), System(("x", "y"), (((-1, -2), -3), ((1, 2), 3))))
        self.assertEqual(read_system("x = 0"), System(("x",), (((-1,), 0), ((1,), 0))))

    def test_blanks(self):
        expected = System(("x", "y"), (((-3, 2), -5),))
        for text in ("2 y-3 x>=-5", "  2   y  -  3   x  >=  -5  ", "+2 y - 3 x >= -5", " + 2 y -3 x>= -5",
                     "-3 x+2 y>=-5", "- 3 x + 2 y >=-5", "3 x-2 y<=5"):
            self.assertEqual(read_system(text), expected, text)

    def test_coefficients_and_integers(self):
        self.assertEqual(read_system("1 x >= 0").rows, (((1,), 0),))
        self.assertEqual(read_system("1000000 x >= -1000000\n999999 y >= 1000000", ()).rows,
                         (((0, 999999), 1000000), ((1, 0), -1)))
        self.assertEqual(read_system("2 x >= 4").rows, (((1,), 2),))

    def test_names(self):
        self.assertEqual(read_system("abcde >= 1").names, ("abcde",))
        self.assertEqual(read_system("b >= 1\na >= 1", ("d", "c")).names, ("a", "b", "c", "d"))
        self.assertEqual(read_system("", ("b", "a")), System(("a", "b"), ()))
        self.assertEqual(read_system("x >= 1", ("x",)).names, ("x",))
        self.assertEqual(read_system(names=("f", "e", "d", "c", "b", "a"), text="").names, tuple("abcdef"))
        self.assertEqual(read_system("a + b + c + d + e + f >= 0", ("f", "a")).names, tuple("abcdef"))

    def test_rows_that_follow_are_left_out(self):
        self.assertEqual(read_system("x >= 1\nx >= 2\n2 x >= 3\nx >= 1").rows, (((1,), 2),))

    def test_no_string(self):
        for value in odd_values():
            if not isinstance(value, str):
                self.assertEqual(raised(read_system, value), ("InvalidText", -1), value)
                self.assertEqual(raised(read_system, value, ("x",)), ("InvalidText", -1), value)
        self.assertEqual(raised(read_system, b"x >= 1"), ("InvalidText", -1))
        self.assertEqual(raised(read_system, ["x >= 1"]), ("InvalidText", -1))

    def test_lines_that_are_none(self):
        wrong = [
            "", " ", "x", "x >=", ">= 1", "x >= y", "x > 1", "x < 1", "x => 1", "x =< 1", "x == 1", "x >== 1",
            "x > = 1", "x < = 1", "x >= 1 = 1", "x >= 1 1", "x >= 1.0", "x >= +1", "x >= - 1", "x >= --1", "x >= -0",
            "x >= 01", "x >= 00", "x >= -01", "x >= 1000001", "x >= -1000001", "x >= 99999999", "x >= 1e3",
            "0 x >= 1", "01 x >= 1", "1000001 x >= 1", "-0 x >= 1", "2x >= 1", "2*x >= 1", "x2 >= 1", "x 2 >= 1",
            "x y >= 1", "x + x >= 1", "x - x >= 1", "x + y + x >= 1", "abcdef >= 1", "X >= 1", "xY >= 1", "x_y >= 1",
            "x + >= 1", "x - >= 1", "+ >= 1", "- >= 1", "3 >= 1", "+ 3 >= 1", "x ++ y >= 1", "x +- y >= 1",
            "-- x >= 1", "+-x >= 1", "x + 2 3 y >= 1", "2 3 x >= 1", "1 0 x >= 1", "x >= 1 2", "x\t>= 1", "x >= 1\r",
            "(x) >= 1", "x, y >= 1", "x >= 1;", "x >= 1_0", "1_0 x >= 1", "\u00b2 x >= 1", "x >= \u0661",
            "\u00e9 >= 1", "x\u00a0>= 1", "x \u2265 1", "x >= 1\x0c", "x >= 1\x0b", "#", "x >= " + "9" * 5000,
            "9" * 5000 + " x >= 1", "1 >= x", "x - 1 >= 0", "x >= 1 y", "x = >= 1", "x <=> 1", "x >= ", "~x >= 1",
        ]
        for line in wrong:
            if line:
                self.assertEqual(raised(read_system, line), ("InvalidText", 0), line)
            self.assertEqual(raised(read_system, GOOD + "\n" + line), ("InvalidText", 1), line)
            self.assertEqual(raised(read_system, GOOD + "\n" + line + "\n" + GOOD), ("InvalidText", 1), line)
            self.assertEqual(raised(read_system, GOOD + "\n\n" + line), ("InvalidText", 1), line)

    def test_newlines(self):
        self.assertEqual(raised(read_system, "\n"), ("InvalidText", 0))
        self.assertEqual(raised(read_system, GOOD + "\n"), ("InvalidText", 1))
        self.assertEqual(raised(read_system, "\n" + GOOD), ("InvalidText", 0))
        self.assertEqual(raised(read_system, GOOD + "\r\n" + GOOD), ("InvalidText", 0))
        self.assertEqual(raised(read_system, "x >= 1\u2028y >= 1"), ("InvalidText", 0))

    def test_no_name(self):
        self.assertEqual(raised(read_system, ""), ("InvalidText", 0))
        self.assertEqual(raised(read_system, "", ()), ("InvalidText", 0))

    def test_too_many_names(self):
        self.assertEqual(raised(read_system, "a + b + c + d + e + f + g >= 0"), ("InvalidText", 0))
        self.assertEqual(raised(read_system, "a + b + c >= 0\nd + e + f >= 0\na >= 0\ng >= 0"), ("InvalidText", 3))
        self.assertEqual(raised(read_system, "a >= 0\nb >= 0", ("c", "d", "e", "f", "g")), ("InvalidText", 1))
        self.assertEqual(raised(read_system, "a >= 0\ng >= 0", tuple("abcdef")), ("InvalidText", 1))
        self.assertEqual(len(read_system("a >= 0\nb >= 0", ("c", "d", "e", "f")).names), 6)

    def test_sixty_and_sixty_one_rows(self):
        lines = [line_of(number) for number in range(1, 62)]
        self.assertEqual(len(read_system("\n".join(lines[:60])).rows), 60)
        self.assertEqual(raised(read_system, "\n".join(lines)), ("InvalidText", 60))
        equations = [line.replace(">=", "=") for line in lines]
        self.assertEqual(len(read_system("\n".join(equations[:30])).rows), 60)
        self.assertEqual(raised(read_system, "\n".join(equations[:31])), ("InvalidText", 30))
        self.assertEqual(raised(read_system, "\n".join(lines[:59] + equations[59:60])), ("InvalidText", 59))

    def test_rows_whose_coefficients_differ_by_a_factor_count_as_one(self):
        lines = [line_of(number) for number in range(1, 61)]
        more = [f"2 x + {2 * number} y >= {number}" for number in range(1, 61)]
        self.assertEqual(len(read_system("\n".join(lines + more + lines)).rows), 60)
        self.assertEqual(raised(read_system, "\n".join(lines + more + ["x + y <= 1"])), ("InvalidText", 120))
        # A name that comes later does not make them more.
        self.assertEqual(len(read_system("\n".join(lines[:59] + more[:59] + ["z >= 0"])).rows), 60)
        half = [line.replace(">=", "=") for line in lines[:30]]
        self.assertEqual(len(read_system("\n".join(half + [line.replace("=", "<=") for line in half])).rows), 60)

    def test_of_several_wrong_lines_the_first_one_is_named(self):
        names = "a + b + c + d + e + f + g >= 0"
        self.assertEqual(raised(read_system, GOOD + "\n" + names + "\nwrong"), ("InvalidText", 1))
        self.assertEqual(raised(read_system, GOOD + "\nwrong\n" + names), ("InvalidText", 1))
        lines = [line_of(number) for number in range(1, 62)]
        self.assertEqual(raised(read_system, "\n".join(lines + ["wrong"])), ("InvalidText", 60))
        self.assertEqual(raised(read_system, "\n".join(["wrong"] + lines)), ("InvalidText", 0))


class Showing(unittest.TestCase):

    def test_rows(self):
        names = ("x", "y", "z")
        self.assertEqual(show_row(names, ((1, 1, 1), 0)), "x + y + z >= 0")
        self.assertEqual(show_row(names, ((-1, 0, 2), -5)), "-x + 2 z >= -5")
        self.assertEqual(show_row(names, ((0, -3, -1), 7)), "-3 y - z >= 7")
        self.assertEqual(show_row(names, ((0, 0, 10 ** 6), -10 ** 6)), "1000000 z >= -1000000")
        self.assertEqual(show_row(row=((1, -1, 0), 1), names=names), "x - y >= 1")

    def test_systems(self):
        self.assertEqual(show_system(System(("x",), ())), "")
        self.assertEqual(show_system(system=System(("x", "y"), (((-1, 0), -3), ((2, 1), 0)))),
                         "-x >= -3\n2 x + y >= 0")

    def test_what_is_shown_is_read(self):
        dice = Dice(55)
        for limit in (3, 10 ** 6):
            for _ in range(100):
                system = any_system(dice, dice.between(1, 6), dice.between(0, 12), limit, limit)
                self.assertEqual(read_system(show_system(system), system.names), system)

    def test_what_is_read_is_the_system_of_the_rows(self):
        dice = Dice(56)
        for _ in range(100):
            rows, lines = [], []
            for _ in range(dice.between(1, 8)):
                numbers = (dice.between(1, 3), dice.between(-3, -1), dice.between(1, 4))
                bound = dice.between(-4, 4)
                relation = dice.pick((">=", "<=", "="))
                lines.append(f"{numbers[0]} a {numbers[1]} b + {numbers[2]} c {relation} {bound}")
                if relation != "<=":
                    rows.append((numbers, bound))
                if relation != ">=":
                    rows.append((tuple(-number for number in numbers), -bound))
            self.assertEqual(read_system("\n".join(lines)), system_of(("a", "b", "c"), tuple(rows)))


if __name__ == "__main__":
    unittest.main()
