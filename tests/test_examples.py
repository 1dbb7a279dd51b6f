"""The examples of the document, as it shows them, and those of README.md."""

import doctest
import pathlib
import unittest

README = pathlib.Path(__file__).resolve().parent.parent / "README.md"

EXAMPLES = {
    "stage 1": r"""
>>> from wakesayings.fronts import Front
>>> front = Front([("f", "g", "f"), ("g",)])
>>> [front.words(), front.letters(), front // "f", front.cut(1), (front // "g").lifted("h")]
[[(), ('f',), ('g',), ('f', 'g'), ('f', 'g', 'f')], ['f', 'g'], Front([('g',), ('g', 'f')]), Front([('f',), ('g',)]), Front([('h',)])]
""",
}


class ExamplesTest(unittest.TestCase):

    def assert_examples(self, name, text):
        found = doctest.DocTestParser().get_doctest(text, {}, name, None, 0)
        told = []
        result = doctest.DocTestRunner(verbose=False).run(found, out=told.append)
        self.assertGreater(result.attempted, 0)
        self.assertEqual(result.failed, 0, "".join(told))

    def test_examples(self):
        for name, text in EXAMPLES.items():
            self.assert_examples(name, text)

    def test_readme(self):
        # A line with three backticks would be taken for what an example shows.
        self.assert_examples("README.md", README.read_text("ascii").replace("```\n", "\n"))


if __name__ == "__main__":
    unittest.main()
