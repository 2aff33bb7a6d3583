"""The examples of the README."""

import doctest
import pathlib
import unittest

README = pathlib.Path(__file__).resolve().parent.parent / "README.md"


class Readme(unittest.TestCase):
    def test_examples(self):
        # The end of a block of code would count as what an example prints.
        text = README.read_text().replace("```", "")
        test = doctest.DocTestParser().get_doctest(text, {}, "README.md", "README.md", 0)
        self.assertGreater(len(test.examples), 30)
        failed, _ = doctest.DocTestRunner().run(test)
        self.assertEqual(failed, 0)


if __name__ == "__main__":
    unittest.main()
