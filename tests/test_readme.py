"""The examples of README.md come out as they stand there."""

import doctest
import pathlib
import unittest

README = pathlib.Path(__file__).resolve().parent.parent / "README.md"


class ReadmeTest(unittest.TestCase):
    def test_examples(self):
        outcome = doctest.testfile(str(README), module_relative=False)
        self.assertGreater(outcome.attempted, 0)
        self.assertEqual(outcome.failed, 0)
