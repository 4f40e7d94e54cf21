import unittest

from postvote.checks import is_split, is_tuple_of, is_whole, is_within


class Checks(unittest.TestCase):
    def test_an_integer_is_an_int_that_is_not_a_bool(self):
        for value in (0, 1, -1, 10 ** 30):
            self.assertIs(is_whole(value), True)
        for value in (True, False, None, "1", (1,), [1], {}):
            self.assertIs(is_whole(value), False)

    def test_the_ends_of_a_range_belong_to_it(self):
        self.assertEqual([is_within(value, 0, 2) for value in (-1, 0, 1, 2, 3)], [False, True, True, True, False])
        for value in (True, False, None, "1", (1,), [1], {}):
            self.assertIs(is_within(value, 0, 2), False)

    def test_a_tuple_of_some_items(self):
        sizes = [is_tuple_of((0,) * size, 1, 3) for size in range(5)]
        self.assertEqual(sizes, [False, True, True, True, False])
        for value in (None, True, 2, "ab", [0, 0], {"a": 1, "b": 2}):
            self.assertIs(is_tuple_of(value, 1, 3), False)

    def test_a_split_of_a_total(self):
        for value in ((0, 0, 3), (3, 0, 0), (1, 1, 1)):
            self.assertIs(is_split(value, 3, 3), True)
        wrong = (
            (1, 1, 2), (0, 1, 1), (4, -1, 0), (-1, 2, 2), (True, 1, 1), (3, False, 0), (3, None, 0), (3, "", 0),
            (3, 0), (3, 0, 0, 0), (), [1, 1, 1], ((1, 1, 1),), None, 3, "111", {},
        )
        for value in wrong:
            self.assertIs(is_split(value, 3, 3), False)
        self.assertIs(is_split((), 0, 0), True)
        self.assertIs(is_split((10 ** 12, 0), 2, 10 ** 12), True)
