"""What README.md shows is what the program answers."""

import doctest
import pathlib
import unittest

README = pathlib.Path(__file__).resolve().parent.parent / "README.md"


class ReadmeTest(unittest.TestCase):
    def test_examples(self):
        # The line that closes an example is no part of what is answered.
        text = README.read_text(encoding="utf-8").replace("```", "")
        examples = doctest.DocTestParser().get_doctest(text, {}, "README.md", str(README), 0)
        found = doctest.DocTestRunner(verbose=False).run(examples)
        self.assertGreater(found.attempted, 30)
        self.assertEqual(found.failed, 0)


if __name__ == "__main__":
    unittest.main()
