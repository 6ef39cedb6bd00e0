import unittest

from wovenplaces import limits


class Limits(unittest.TestCase):
    def test_the_ten_numbers(self):
        told = {
            "MOST_BASE": 4, "MOST_SIGNS": 4, "MOST_HANDED": 3, "MOST_ROWS": 4, "MOST_KNOTS": 8,
            "MOST_PARTS": 3, "MOST_DROP": 9, "MOST_EXCHANGES": 6, "MOST_MEMBER": 1000, "MOST_STEP": 12,
        }
        for name, number in told.items():
            with self.subTest(name):
                self.assertIs(type(getattr(limits, name)), int)
                self.assertEqual(getattr(limits, name), number)


if __name__ == "__main__":
    unittest.main()
