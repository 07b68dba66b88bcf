"""All examples of the document, as it writes them; names that were set once stay set."""

import os
import unittest

from tests.helper import EXAMPLES, run_examples


class ExamplesTest(unittest.TestCase):

    def test_examples(self):
        names = {}
        for file in sorted(os.listdir(EXAMPLES)):
            told = 0
            for line, came, due in run_examples(file, names):
                told += 1
                with self.subTest(file=file, line=line):
                    self.assertEqual(came, due)
            self.assertGreater(told, 0, file)


if __name__ == "__main__":
    unittest.main()
