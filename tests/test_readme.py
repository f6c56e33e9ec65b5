"""Tests that the examples of README.md are right."""

import doctest
import pathlib
import re
import unittest

README = pathlib.Path(__file__).resolve().parent.parent / "README.md"


class Readme(unittest.TestCase):
    def test_the_examples(self):
        text = README.read_text(encoding="utf-8")
        examples = "\n".join(re.findall(r"^```\n(>>>.*?)^```$", text, re.MULTILINE | re.DOTALL))
        found = doctest.DocTestParser().get_doctest(examples, {}, "README.md", str(README), 0)
        told = []
        results = doctest.DocTestRunner(verbose=False).run(found, out=told.append)
        self.assertGreater(results.attempted, 10)
        self.assertEqual(results.failed, 0, "".join(told))


if __name__ == "__main__":
    unittest.main()
