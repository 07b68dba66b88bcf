"""All examples of the document, as it writes them; names that were set once stay set. Those of README.md."""

import doctest
import os
import unittest

from tests.helper import EXAMPLES, run_examples


class ExamplesTest(unittest.TestCase):

    def test_examples(self):
        names = {}
        for file in sorted(os.listdir(EXAMPLES)):
            told = 0
            for line, came, due in run_examples(file, names):
                told += 1
                with self.subTest(file=file, line=line):
                    self.assertEqual(came, due)
            self.assertGreater(told, 0, file)

    def test_readme(self):
        readme = os.path.join(os.path.dirname(os.path.dirname(EXAMPLES)), "README.md")
        failed, attempted = doctest.testfile(readme, module_relative=False)
        self.assertEqual(failed, 0)
        self.assertGreater(attempted, 20)


if __name__ == "__main__":
    unittest.main()
