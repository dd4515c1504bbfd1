"""The examples in README.md."""

import doctest
import pathlib
import unittest

README = pathlib.Path(__file__).resolve().parent.parent / "README.md"


class ReadmeTest(unittest.TestCase):
    def test_examples(self):
        blocks = [block for block in README.read_text().split("```")[1::2] if ">>>" in block]
        self.assertGreater(len(blocks), 3)
        test = doctest.DocTestParser().get_doctest("\n".join(blocks), {}, "README.md", None, 0)
        told = []
        results = doctest.DocTestRunner().run(test, out=told.append)
        self.assertEqual((results.failed, told), (0, []))


if __name__ == "__main__":
    unittest.main()
