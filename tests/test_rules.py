"""The files of the package keep the rules of ../shared/LANGUAGE.md, as far as `rules.py` sees them."""

import os
import unittest
import warnings

from tests.rules import faults

FOLDER = os.path.join(os.path.dirname(os.path.dirname(os.path.abspath(__file__))), "rowalone")
GOOD = '"""A file."""\n\n\ndef told(rows):\n    """A sum."""\n    return sum([row for row in rows])\n'
BAD = {
    "L2": "from os import path\n",
    "L3": "x = [k for k in (1, 2)]\n",
    "L4": 'def told(x=len("a")):\n    """A."""\n',
    "L6": 'def told():\n    """A."""\n    global x\n',
    "L7": 'def told(x):\n    """A."""\n    return x / 2.5\n',
    "L8": 'def told(x):\n    """A."""\n    return round(x)\n',
    "L10": "# " + "x" * 120 + "\n",
    "L11": 'def told(x):\n    """A."""\n    return told(x - 1)\n',
    "L15": 'def told(max):\n    """A."""\n    return max\n',
    "L16": "from rowalone.errors import Missing\n",
    "L17": 'def told(x):\n    """A."""\n    elements = x\n    return elements\n',
    "L18": 'def told(x):\n    """A."""\n    return x.missing\n',
    "L19": 'def told(x):\n    """A."""\n    raise x\n',
    "L20": 'def told(x):\n    """A."""\n    return x is 5 or x is x\n',
    "L22": 'def told(x):\n    """A."""\n    return sorted(x, cmp=5)\n',
    "L23": 'def told(x):\n    """A."""\n    for k in x:\n        x.append(k)\n',
    "L24": 'def told(x):\n    """A."""\n    return {k for k in x}\n',
    "L25": 'def told(x):\n    """A."""\n    return x.fullmatch(3)\n',
    "L27": 'def told(x):\n    """A."""\n    return 2 ** x\n',
}


def sources():
    found = {}
    for name in os.listdir(FOLDER):
        if name != "__pycache__":
            with open(os.path.join(FOLDER, name), encoding="utf-8", newline="") as file:
                found[name] = file.read()
    return found


class Rules(unittest.TestCase):

    def test_the_package(self):
        self.assertEqual(faults(sources()), [])

    def test_one_folder_of_plain_files(self):
        for name in sources():
            self.assertTrue(os.path.isfile(os.path.join(FOLDER, name)))
        self.assertIn("__init__.py", sources())
        self.assertLessEqual(len(sources()), 100)

    def test_no_warnings(self):
        with warnings.catch_warnings():
            warnings.simplefilter("error")
            for name, text in sources().items():
                compile(text, name, "exec")

    def test_the_checker_sees_faults(self):
        self.assertEqual(faults({"good.py": GOOD}), [])
        for rule, text in BAD.items():
            with warnings.catch_warnings():
                warnings.simplefilter("ignore")
                self.assertIn(rule, [fault[0] for fault in faults({"bad.py": text})], text)


if __name__ == "__main__":
    unittest.main()
