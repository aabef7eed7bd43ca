"""That the examples of README.md are right."""

import doctest
import pathlib
import unittest

README = pathlib.Path(__file__).resolve().parent.parent / "README.md"


class Readme(unittest.TestCase):

    def test_examples(self):
        results = doctest.testfile(str(README), module_relative=False)
        self.assertEqual(results.failed, 0)
        self.assertGreater(results.attempted, 5)


if __name__ == "__main__":
    unittest.main()
