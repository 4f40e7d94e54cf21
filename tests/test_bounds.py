import unittest

from postvote import bounds


class Bounds(unittest.TestCase):
    def test_values(self):
        expected = {
            "POSTS": 6,
            "GROUPS": 10,
            "BIG": 1000000000000,
            "HEAVY": 1000000000,
            "LIMIT": 1000000000000,
            "LISTED": 2000,
            "EDITS": 60,
            "BATCH": 20,
        }
        self.assertEqual({name: getattr(bounds, name) for name in expected}, expected)
        for name in expected:
            self.assertIs(type(getattr(bounds, name)), int, name)
