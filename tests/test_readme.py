"""What README.md shows is what the program answers."""

import doctest
import pathlib
import unittest

README = pathlib.Path(__file__).resolve().parent.parent / "README.md"


class TestReadme(unittest.TestCase):
    def test_what_it_shows(self):
        told = doctest.testfile(str(README), module_relative=False, encoding="ascii")
        self.assertEqual(told.failed, 0)
        self.assertGreater(told.attempted, 20)


if __name__ == "__main__":
    unittest.main()
