"""All examples of the document, in its sequence: `examples.txt` has them, each with the point that it stands in."""

import doctest
import os
import unittest

FOLDER = os.path.dirname(os.path.abspath(__file__))


class Document(unittest.TestCase):

    def test_examples(self):
        failed, tried = doctest.testfile(os.path.join(FOLDER, "examples.txt"), module_relative=False)
        self.assertEqual((failed, tried), (0, 130))


if __name__ == "__main__":
    unittest.main()
