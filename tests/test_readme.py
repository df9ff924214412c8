"""What README.md shows is what the program tells."""

import doctest
import pathlib
import unittest

README = pathlib.Path(__file__).resolve().parent.parent / "README.md"


class Readme(unittest.TestCase):
    def test_each_example_is_true(self):
        found = doctest.testfile(str(README), module_relative=False, encoding="utf-8")
        self.assertGreater(found.attempted, 0)
        self.assertEqual(found.failed, 0)


if __name__ == "__main__":
    unittest.main()
