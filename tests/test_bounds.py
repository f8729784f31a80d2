import unittest

from fallingfields import bounds


class BoundsTest(unittest.TestCase):
    def test_each_value(self):
        expected = {
            "MAX_SIZE": 1000000000000000000000000000000,
            "MAX_KINDS": 6,
            "MAX_MANY": 1000000000000000000000000000000,
            "MAX_ROW": 100,
            "MAX_PIECES": 20,
            "MAX_STATES": 256,
            "MAX_EDITS": 40,
        }
        for name, value in expected.items():
            with self.subTest(name):
                self.assertEqual(getattr(bounds, name), value)
                self.assertIs(type(getattr(bounds, name)), int)


if __name__ == "__main__":
    unittest.main()
