"""The examples of README.md do what is written there."""

import doctest
import pathlib
import unittest

README = pathlib.Path(__file__).resolve().parent.parent / "README.md"


class TestReadme(unittest.TestCase):
    def test_examples(self):
        # The end of a block of code would be read as a part of the last answer.
        text = README.read_text(encoding="utf-8").replace("```", "")
        example = doctest.DocTestParser().get_doctest(text, {}, "README.md", str(README), 0)
        result = doctest.DocTestRunner().run(example)
        self.assertGreater(result.attempted, 0)
        self.assertEqual(result.failed, 0)


if __name__ == "__main__":
    unittest.main()
