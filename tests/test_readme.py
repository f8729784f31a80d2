import doctest
import os
import unittest

README = os.path.join(os.path.dirname(os.path.abspath(__file__)), os.pardir, "README.md")


class ReadmeTest(unittest.TestCase):
    def test_examples(self):
        failed, tried = doctest.testfile(README, module_relative=False)
        self.assertEqual(failed, 0)
        self.assertGreater(tried, 0)


if __name__ == "__main__":
    unittest.main()
