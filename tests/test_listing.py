import copy
import itertools
import unittest

from postvote.assignments import is_assignment
from postvote.errors import TooMany
from postvote.listing import all_assignments
from tests.support import (
    BIG, generator, many_instances, plain, small_assignments, small_instance, some_instance, wide_instance,
)


def divisions(total, size):
    """All tuples of so many integers from 0 on that add up to total."""
    return [one for one in itertools.product(range(total + 1), repeat=size) if sum(one) == total]


class AllAssignments(unittest.TestCase):
    def check(self, instance, expected):
        self.assertEqual(plain(all_assignments(instance)), plain(tuple(expected)))
        self.assertEqual(all_assignments(instance, limit=2000), tuple(expected))

    def check_too_many(self, instance, limit):
        with self.assertRaises(TooMany) as caught:
            all_assignments(instance, limit=limit)
        self.assertIs(type(caught.exception), TooMany)
        self.assertEqual(plain(caught.exception.limit), plain(limit))

    def test_example(self):
        self.check(((1,), (((0,), 2),)), (((0, 2),), ((1, 1),)))

    def test_all_tuples_that_are_assignments(self):
        rng = generator(150)
        tried = 0
        while tried < 100:
            instance = small_instance(rng, 4)
            shares = [divisions(count, len(posts) + 1) for posts, count in instance[1]]
            expected = [one for one in itertools.product(*shares) if is_assignment(instance, one)]
            if len(expected) <= 2000:
                tried += 1
                self.assertEqual(expected, sorted(expected))
                self.check(instance, expected)

    def test_small_instances(self):
        rng = generator(151)
        for turn in range(300):
            instance = small_instance(rng)
            expected = sorted(small_assignments(instance))
            self.check(instance, expected)
            size = len(expected)
            for limit in {size, size + 1}:
                self.assertEqual(all_assignments(instance, limit=limit), tuple(expected))
            for limit in {1, size // 2, size - 1} - {0, size}:
                self.check_too_many(instance, limit)

    def test_two_thousand(self):
        for count in (1998, 1999):
            expected = [((number, count - number),) for number in range(count + 1)]
            self.check(((BIG,), (((0,), count),)), expected)
            self.check_too_many(((BIG,), (((0,), count),)), count)
        self.check_too_many(((BIG,), (((0,), 2000),)), 2000)
        with self.assertRaises(TooMany) as caught:
            all_assignments(((BIG,), (((0,), 2000),)))
        self.assertEqual(caught.exception.limit, 2000)

    def test_very_many(self):
        rng = generator(152)
        for turn in range(40):
            instance = wide_instance(rng, BIG)
            for limit in (1, 2, 500, 2000):
                self.check_too_many(instance, limit)
        for instance in many_instances(rng, 200):
            try:
                found = all_assignments(instance)
            except TooMany:
                continue
            self.assertEqual(list(found), sorted(set(found)))
            self.assertEqual({is_assignment(instance, one) for one in found}, {True})

    def test_many_only_at_the_end(self):
        instance = ((1, BIG), (((), BIG), ((), 3), ((0,), 1), ((1,), BIG)))
        self.check_too_many(instance, 2000)
        self.check_too_many(instance, 1)

    def test_one_place_for_many_applicants(self):
        self.check(((1,), (((0,), BIG), ((0,), BIG))), (
            ((0, BIG), (0, BIG)), ((0, BIG), (1, BIG - 1)), ((1, BIG - 1), (0, BIG)),
        ))

    def test_empty_lists_have_one_assignment(self):
        instance = ((1, 2), (((), 5), ((), BIG)))
        self.check(instance, (((5,), (BIG,)),))
        self.assertEqual(all_assignments(instance, limit=1), (((5,), (BIG,)),))

    def test_limit_by_keyword_only(self):
        with self.assertRaises(TypeError):
            all_assignments(((1,), (((0,), 2),)), 5)

    def test_arguments_do_not_change(self):
        rng = generator(153)
        for turn in range(50):
            instance = some_instance(rng, 2)
            before = copy.deepcopy(instance)
            try:
                all_assignments(instance, limit=100)
            except TooMany:
                pass
            self.assertEqual(repr(instance), repr(before))
