"""What README.md shows is what the program answers."""

import doctest
import os
import unittest

README = os.path.join(os.path.dirname(os.path.dirname(os.path.abspath(__file__))), "README.md")


class Readme(unittest.TestCase):
    def test_examples(self):
        # Only the class of a refusal counts: its words are free.
        found = doctest.testfile(README, module_relative=False, optionflags=doctest.IGNORE_EXCEPTION_DETAIL)
        self.assertEqual(found.failed, 0)
        self.assertGreater(found.attempted, 0)


if __name__ == "__main__":
    unittest.main()
