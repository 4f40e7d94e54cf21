import copy
import itertools
import unittest

from postvote.assignments import empty_assignment, is_assignment, post_loads, unassigned_count
from tests.support import (
    BIG, ODD_VALUES, generator, near_instance, part_at, paths, replaced, small_assignments, some_assignment,
    some_instance, spoiled,
)

I = ((1, 1), (((0, 1), 2),))
K = ((1, 2, 1), (((0, 1), 2), ((0, 2), 2)))


def expected(instance, value):
    """Whether value is an assignment, read off DOC.md point by point."""
    posts, groups = instance
    if type(value) is not tuple or len(value) != len(groups):
        return False
    for (ranked, count), share in zip(groups, value):
        if type(share) is not tuple or len(share) != len(ranked) + 1:
            return False
        if [number for number in share if type(number) is not int or number < 0]:
            return False
        if sum(share) != count:
            return False
    return all(load <= capacity for load, capacity in zip(counted_loads(instance, value), posts))


def counted_loads(instance, assignment):
    posts, groups = instance
    return tuple(
        sum(assignment[at][ranked.index(post)] for at, (ranked, count) in enumerate(groups) if post in ranked)
        for post in range(len(posts))
    )


class IsAssignment(unittest.TestCase):
    def check(self, instance, value, answer):
        self.assertIs(is_assignment(instance, value), answer, (instance, value))
        self.assertIs(is_assignment(instance, value), answer, (instance, value))

    def test_example(self):
        self.assertEqual([is_assignment(I, ((1, 1, 0),)), is_assignment(I, ((2, 0, 0),))], [True, False])

    def test_all_tables_of_small_instances(self):
        instances = (
            I,
            ((1,), (((0,), 2), ((), 1))),
            ((2, 1), (((0, 1), 2), ((1,), 2))),
            ((1, 2, 1), (((0, 1), 2), ((2, 0), 1))),
        )
        for instance in instances:
            right = small_assignments(instance)
            self.assertGreater(len(right), 1)
            shares = [
                itertools.product(range(-1, count + 2), repeat=len(posts) + 1) for posts, count in instance[1]
            ]
            for value in itertools.product(*shares):
                self.check(instance, value, value in right)

    def test_one_applicant_more_at_any_option(self):
        value = ((0, 1, 1), (1, 0, 1))
        self.check(K, value, True)
        for group in range(2):
            for option in range(3):
                self.check(K, replaced(value, (group, option), value[group][option] + 1), False)

    def test_a_post_filled_beyond_its_capacity(self):
        self.check(K, ((1, 1, 0), (0, 1, 1)), True)
        self.check(K, ((1, 1, 0), (1, 1, 0)), False)
        self.check(K, ((2, 0, 0), (0, 1, 1)), False)
        self.check(K, ((0, 2, 0), (0, 2, 0)), False)
        self.check(((BIG,), (((0,), BIG), ((0,), BIG))), ((BIG, 0), (0, BIG)), True)
        self.check(((BIG,), (((0,), BIG), ((0,), BIG))), ((BIG, 0), (1, BIG - 1)), False)

    def test_a_negative_number_with_the_right_sum(self):
        self.check(I, ((-1, 1, 2),), False)
        self.check(I, ((1, -1, 2),), False)
        self.check(I, ((1, 1, 0),), True)
        self.check(((1, 1), (((0, 1), 1), ((0, 1), 1))), ((2, 0, -1), (-1, 1, 1)), False)

    def test_bools(self):
        for path in paths(((1, 1, 0),)):
            value = ((1, 1, 0),)
            if isinstance(part_at(value, path), int):
                self.check(I, replaced(value, path, bool(part_at(value, path))), False)

    def test_lists(self):
        for value in ([(1, 1, 0)], ([1, 1, 0],), [[1, 1, 0]], (((1, 1, 0),),)):
            self.check(I, value, False)

    def test_other_numbers_of_items(self):
        for value in ((), ((1, 1, 0), (1, 1, 0)), ((1, 1),), ((1, 1, 0, 0),), ((),)):
            self.check(I, value, False)
        self.check(((1,), (((), 3),)), ((3,),), True)
        self.check(((1,), (((), 3),)), ((),), False)

    def test_odd_values_in_every_place(self):
        value = ((1, 1, 0), (0, 1, 1))
        for path in paths(value):
            for part in ODD_VALUES:
                changed = replaced(value, path, part)
                self.check(K, changed, expected(K, changed))

    def test_many_assignments_and_spoiled_ones(self):
        rng = generator(9)
        for turn in range(3000):
            instance = rng.choice((some_instance, near_instance))(rng, rng.choice((4, BIG)))
            value = some_assignment(rng, instance)
            self.check(instance, value, True)
            once = spoiled(rng, value)
            for changed in (once, spoiled(rng, once), empty_assignment(some_instance(rng))):
                self.check(instance, changed, expected(instance, changed))

    def test_moving_one_applicant(self):
        rng = generator(10)
        answers = []
        for turn in range(2000):
            instance = near_instance(rng, rng.choice((4, BIG)))
            value = some_assignment(rng, instance)
            group = rng.randrange(len(value))
            start, end = rng.choices(range(len(value[group])), k=2)
            moved = replaced(value, (group, start), value[group][start] - 1)
            moved = replaced(moved, (group, end), moved[group][end] + 1)
            answers.append(expected(instance, moved))
            self.check(instance, moved, answers[-1])
        self.assertGreater(answers.count(True), 200)
        self.assertGreater(answers.count(False), 200)

    def test_arguments_do_not_change(self):
        rng = generator(11)
        for turn in range(300):
            instance = some_instance(rng)
            value = spoiled(rng, spoiled(rng, some_assignment(rng, instance)))
            before = copy.deepcopy((instance, value))
            is_assignment(instance, value)
            self.assertEqual(repr((instance, value)), repr(before))


class Numbers(unittest.TestCase):
    def test_examples(self):
        self.assertEqual(post_loads(K, ((1, 1, 0), (0, 1, 1))), (1, 1, 1))
        self.assertEqual(unassigned_count(K, ((1, 1, 0), (0, 1, 1))), 1)
        self.assertEqual(empty_assignment(I), ((0, 0, 2),))

    def test_empty_lists(self):
        instance = ((2, 1), (((), 3), ((1,), 1), ((), BIG)))
        self.assertEqual(empty_assignment(instance), ((3,), (0, 1), (BIG,)))
        self.assertEqual(post_loads(instance, ((3,), (1, 0), (BIG,))), (0, 1))
        self.assertEqual(unassigned_count(instance, ((3,), (1, 0), (BIG,))), BIG + 3)

    def test_great_numbers(self):
        instance = ((BIG,) * 6, (((5, 0), BIG),) * 10)
        shares = ((BIG, 0, 0), (0, BIG, 0)) + ((0, 0, BIG),) * 8
        self.assertIs(is_assignment(instance, shares), True)
        self.assertEqual(post_loads(instance, shares), (BIG, 0, 0, 0, 0, BIG))
        self.assertEqual(unassigned_count(instance, shares), 8 * BIG)
        self.assertEqual(empty_assignment(instance), ((0, 0, BIG),) * 10)

    def test_many(self):
        rng = generator(12)
        for turn in range(1000):
            instance = some_instance(rng, rng.choice((4, BIG)))
            value = some_assignment(rng, instance)
            loads = counted_loads(instance, value)
            applicants = sum(count for posts, count in instance[1])
            for again in range(2):
                self.assertEqual(post_loads(instance, value), loads)
                self.assertEqual(unassigned_count(instance, value), applicants - sum(loads))
                nobody = empty_assignment(instance)
                self.assertIs(is_assignment(instance, nobody), True)
                self.assertEqual(post_loads(instance, nobody), (0,) * len(instance[0]))
                self.assertEqual(unassigned_count(instance, nobody), applicants)
