"""The examples of README.md."""

import doctest
import unittest
from pathlib import Path


class ReadmeTest(unittest.TestCase):

    def test_examples(self):
        told = doctest.testfile(str(Path(__file__).parent.parent / "README.md"), module_relative=False)
        self.assertGreater(told.attempted, 20)
        self.assertEqual(told.failed, 0)
