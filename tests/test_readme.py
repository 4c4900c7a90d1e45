"""The examples of README.md return what they show."""

import doctest
import os
import unittest

README = os.path.join(os.path.dirname(os.path.dirname(os.path.abspath(__file__))), "README.md")


class Readme(unittest.TestCase):

    def test_the_examples(self):
        with open(README, encoding="utf-8") as file:
            text = "\n".join(row for row in file.read().split("\n") if not row.startswith("```"))
        examples = doctest.DocTestParser().get_doctest(text, {}, "README", README, 0)
        self.assertTrue(examples.examples)
        told = []
        result = doctest.DocTestRunner().run(examples, out=told.append)
        self.assertEqual(result.failed, 0, "".join(told))


if __name__ == "__main__":
    unittest.main()
