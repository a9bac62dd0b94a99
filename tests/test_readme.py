"""The examples of README.md."""

import doctest
import unittest
from pathlib import Path

README = Path(__file__).resolve().parent.parent / "README.md"


class TestReadme(unittest.TestCase):
    def test_examples(self):
        # A fence behind an example would be read as a part of what it prints.
        text = README.read_text().replace("```", "")
        found = doctest.DocTestParser().get_doctest(text, {}, "README.md", str(README), 0)
        self.assertGreater(len(found.examples), 5)
        told = []
        result = doctest.DocTestRunner(verbose=False).run(found, out=told.append)
        self.assertEqual(result.failed, 0, "".join(told))


if __name__ == "__main__":
    unittest.main()
