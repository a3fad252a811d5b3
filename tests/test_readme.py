"""README.md: what it shows is what the program tells."""

import doctest
import pathlib
import unittest

README = pathlib.Path(__file__).resolve().parent.parent / "README.md"
MODULES = (
    "errors", "signs", "signwords", "steps", "texts", "worlds", "runs", "rooms", "sayings", "bonds", "saywords",
    "judge", "words", "marks", "short", "desk", "mazes",
)


class ReadmeTest(unittest.TestCase):
    def test_examples(self):
        results = doctest.testfile(str(README), module_relative=False, encoding="utf-8")
        self.assertGreater(results.attempted, 0)
        self.assertEqual(results.failed, 0)

    def test_tells_of_each_module_and_of_the_tests(self):
        words = README.read_text(encoding="utf-8")
        for name in MODULES:
            self.assertIn(f"`anymeaning.{name}`", words)
        self.assertIn(".ci/run", words)
