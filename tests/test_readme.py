"""The examples of README.md, each as it stands."""

import doctest
import unittest
from pathlib import Path


class ReadmeTest(unittest.TestCase):
    def test_the_examples(self):
        readme = Path(__file__).resolve().parent.parent / "README.md"
        text = readme.read_text(encoding="utf-8").replace("```", "")
        examples = doctest.DocTestParser().get_doctest(text, {}, "README.md", str(readme), 0)
        self.assertGreater(len(examples.examples), 4)
        self.assertEqual(doctest.DocTestRunner(optionflags=doctest.IGNORE_EXCEPTION_DETAIL).run(examples).failed, 0)


if __name__ == "__main__":
    unittest.main()
