"""The examples of README.md give what it says."""

import doctest
import pathlib
import unittest

README = pathlib.Path(__file__).resolve().parent.parent / "README.md"


class Readme(unittest.TestCase):

    def test_examples(self):
        # A fence would be taken for a part of the expected output above it.
        text = README.read_text(encoding="utf-8").replace("```", "")
        found = doctest.DocTestParser().get_doctest(text, {}, "README.md", str(README), 0)
        self.assertGreater(len(found.examples), 10)
        runner = doctest.DocTestRunner(verbose=False)
        runner.run(found)
        self.assertEqual(runner.failures, 0)


if __name__ == "__main__":
    unittest.main()
