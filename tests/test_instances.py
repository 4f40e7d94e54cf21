import copy
import unittest

from postvote.instances import (
    claimed_posts, crowded_posts, demands, excesses, free_places, instance_error, is_instance, option_post,
    reserve_option,
)
from tests.support import (
    BIG, ODD_VALUES, generator, near_instance, part_at, paths, plain, replaced, some_instance, spoiled,
)

I = ((1, 1), (((0, 1), 2),))
K = ((1, 2, 1), (((0, 1), 2), ((0, 2), 2)))
GOOD = ((1, 2, 3), (((0, 1), 4), ((2,), 5), ((), 6)))

# Faults of GOOD in the documented order: what they replace, by what, and the error.
FAULTS = (
    ((0,), (), ((0,), "posts")),
    ((0, 0), 0, ((0, 0), "capacity")),
    ((0, 2), True, ((0, 2), "capacity")),
    ((1,), (), ((1,), "groups")),
    ((1, 0), ((0, 1),), ((1, 0), "group")),
    ((1, 0, 0), (0, 0), ((1, 0, 0), "list")),
    ((1, 0, 1), BIG + 1, ((1, 0, 1), "count")),
    ((1, 1), None, ((1, 1), "group")),
    ((1, 1, 0), (3,), ((1, 1, 0), "list")),
    ((1, 1, 1), False, ((1, 1, 1), "count")),
    ((1, 2), [(), 6], ((1, 2), "group")),
    ((1, 2, 0), [], ((1, 2, 0), "list")),
    ((1, 2, 1), 0, ((1, 2, 1), "count")),
)


def tuple_sized(value, sizes):
    return type(value) is tuple and len(value) in sizes


def number_from_1(value):
    return type(value) is int and value in range(1, 10 ** 12 + 1)


def ranked_posts(value, post_count):
    if type(value) is not tuple or [post for post in value if type(post) is not int]:
        return False
    return sorted(value) == [post for post in range(post_count) if post in value]


def expected_error(value):
    """The documented errors, read off DOC.md point by point."""
    if not tuple_sized(value, (2,)):
        return (), "instance"
    if not tuple_sized(value[0], range(1, 7)):
        return (0,), "posts"
    bad = [post for post in range(len(value[0])) if not number_from_1(value[0][post])]
    if bad:
        return (0, bad[0]), "capacity"
    if not tuple_sized(value[1], range(1, 11)):
        return (1,), "groups"
    found = []
    for at, group in enumerate(value[1]):
        if not tuple_sized(group, (2,)):
            found.append(((1, at), "group"))
            continue
        if not ranked_posts(group[0], len(value[0])):
            found.append(((1, at, 0), "list"))
        if not number_from_1(group[1]):
            found.append(((1, at, 1), "count"))
    return found[0] if found else None


class InstanceErrors(unittest.TestCase):
    def check(self, value, error):
        self.assertEqual(plain(instance_error(value)), plain(error), value)
        self.assertIs(is_instance(value), error is None, value)
        self.assertEqual(plain(instance_error(value)), plain(error), value)

    def test_examples(self):
        self.assertEqual([is_instance(I), is_instance(((1,), ()))], [True, False])
        self.assertEqual(instance_error(((1, 1), (((0, 2), 2),))), ((1, 0, 0), "list"))

    def test_each_fault_by_itself(self):
        self.check(GOOD, None)
        for path, part, error in FAULTS:
            self.check(replaced(GOOD, path, part), error)

    def test_two_faults_at_once(self):
        for at, (path, part, error) in enumerate(FAULTS):
            for later_path, later_part, later_error in FAULTS[at + 1:]:
                # A fault of a whole leaves no room for one of its parts.
                if later_path[:len(path)] != path:
                    value = replaced(replaced(GOOD, later_path, later_part), path, part)
                    self.check(value, error)

    def test_not_a_tuple_of_two_items(self):
        for value in (*ODD_VALUES, GOOD[:1], GOOD + (1,), list(GOOD), {"posts": (1,), "groups": ()}):
            if not (isinstance(value, tuple) and len(value) == 2):
                self.check(value, ((), "instance"))

    def test_the_number_of_posts(self):
        for many in range(9):
            error = None if 1 <= many <= 6 else ((0,), "posts")
            self.check(((1,) * many, (((), 1),)), error)

    def test_the_number_of_groups(self):
        for many in range(13):
            error = None if 1 <= many <= 10 else ((1,), "groups")
            self.check(((1,), (((0,), 1),) * many), error)

    def test_limits_of_numbers(self):
        for number in (-BIG, -1, 0, 1, 2, BIG - 1, BIG, BIG + 1, 10 ** 29):
            good = 1 <= number <= BIG
            self.check(((1, number), (((0,), 1),)), None if good else ((0, 1), "capacity"))
            self.check(((1,), (((0,), 1), ((), number))), None if good else ((1, 1, 1), "count"))

    def test_lists(self):
        for posts in ((), (0,), (2, 0), (1, 2, 0)):
            self.check(((1, 1, 1), ((posts, 1),)), None)
        wrong = (
            (3,), (-1,), (0, 0), (0, 1, 2, 0), (1, 2, 3), (True,), (0, False), (0, None), (0, "1"), (0, (1,)),
            (0, [1]), ([], []), ({},), [0], "0", None, 0, {}, {"0": 1}, tuple(range(500)),
        )
        for posts in wrong:
            self.check(((1, 1, 1), ((posts, 1),)), ((1, 0, 0), "list"))

    def test_bools_are_no_integers_at_any_depth(self):
        value = ((1, 1), (((0, 1), 1), ((1,), 1)))
        for path in paths(value):
            part = part_at(value, path)
            if isinstance(part, int):
                changed = replaced(value, path, bool(part))
                self.assertEqual(changed, value)
                self.check(changed, expected_error(changed))
                self.assertIs(is_instance(changed), False)

    def test_lists_are_no_tuples_at_any_depth(self):
        for path in paths(GOOD):
            part = part_at(GOOD, path)
            if isinstance(part, tuple):
                changed = replaced(GOOD, path, list(part))
                self.check(changed, expected_error(changed))
                self.assertIs(is_instance(changed), False)

    def test_odd_values_in_every_place(self):
        for path in paths(GOOD):
            for value in ODD_VALUES:
                changed = replaced(GOOD, path, value)
                self.check(changed, expected_error(changed))

    def test_many_instances_and_spoiled_ones(self):
        rng = generator(4)
        reasons = {}
        for turn in range(3000):
            instance = some_instance(rng, rng.choice((4, BIG)))
            self.check(instance, None)
            once = spoiled(rng, instance)
            for value in (once, spoiled(rng, once)):
                error = expected_error(value)
                self.check(value, error)
                reason = error and error[1]
                reasons[reason] = reasons.get(reason, 0) + 1
        expected = {None, "instance", "posts", "capacity", "groups", "group", "list", "count"}
        self.assertEqual(set(reasons), expected)
        self.assertGreater(min(reasons.values()), 50)

    def test_arguments_do_not_change(self):
        rng = generator(5)
        for turn in range(300):
            value = spoiled(rng, spoiled(rng, some_instance(rng)))
            before = copy.deepcopy(value)
            is_instance(value)
            instance_error(value)
            self.assertEqual(plain(value), plain(before))


class Options(unittest.TestCase):
    def test_example(self):
        self.assertEqual([option_post(I, 0, 1), option_post(I, 0, 2)], [1, None])

    def test_all_options(self):
        rng = generator(6)
        for turn in range(300):
            instance = some_instance(rng, rng.choice((4, BIG)))
            for group, (posts, count) in enumerate(instance[1]):
                found = [option_post(instance, group, option) for option in range(len(posts) + 1)]
                self.assertEqual(found, [*posts, None])

    def test_an_empty_list(self):
        self.assertIs(option_post(((1,), (((0,), 1), ((), 1))), 1, 0), None)


class Demands(unittest.TestCase):
    def check(self, instance, demand):
        posts = instance[0]
        self.assertEqual(demands(instance), demand)
        self.assertEqual(excesses(instance), tuple(d - c if d > c else 0 for d, c in zip(demand, posts)))
        self.assertEqual(free_places(instance), tuple(c - d if c > d else 0 for d, c in zip(demand, posts)))
        claimed = tuple(p for p in range(len(posts)) if demand[p] >= posts[p])
        self.assertEqual(claimed_posts(instance), claimed)
        self.assertEqual(crowded_posts(instance), tuple(p for p in claimed if demand[p] != posts[p]))

    def test_examples(self):
        self.assertEqual([demands(K), excesses(K), free_places(K)], [(4, 0, 0), (3, 0, 0), (0, 2, 1)])
        instance = ((1, 1), (((0,), 1), ((1,), 2)))
        self.assertEqual([claimed_posts(instance), crowded_posts(instance)], [(0, 1), (1,)])

    def test_capacities_one_less_equal_and_one_more(self):
        instance = ((4, 5, 6), (((0,), 5), ((1, 0), 5), ((2, 0), 3), ((2, 1), 2)))
        self.assertEqual(demands(instance), (5, 5, 5))
        self.assertEqual(excesses(instance), (1, 0, 0))
        self.assertEqual(free_places(instance), (0, 0, 1))
        self.assertEqual(claimed_posts(instance), (0, 1))
        self.assertEqual(crowded_posts(instance), (0,))

    def test_nobody_wants_anything(self):
        instance = ((1, BIG), (((), 1), ((), BIG)))
        self.assertEqual(demands(instance), (0, 0))
        self.assertEqual(excesses(instance), (0, 0))
        self.assertEqual(free_places(instance), (1, BIG))
        self.assertEqual(claimed_posts(instance), ())
        self.assertEqual(crowded_posts(instance), ())

    def test_the_greatest_numbers(self):
        instance = ((1, BIG), (((0, 1), BIG),) * 10)
        self.assertEqual(demands(instance), (10 * BIG, 0))
        self.assertEqual(excesses(instance), (10 * BIG - 1, 0))
        self.assertEqual(free_places(instance), (0, BIG))

    def test_many(self):
        rng = generator(7)
        for turn in range(2000):
            instance = rng.choice((some_instance, near_instance))(rng, rng.choice((4, BIG)))
            demand = [0] * len(instance[0])
            for posts, count in instance[1]:
                for post in posts[:1]:
                    demand[post] += count
            self.check(instance, tuple(demand))
            self.check(instance, tuple(demand))


class Reserves(unittest.TestCase):
    def test_example(self):
        instance = ((1, 1), (((0, 1), 2), ((1,), 1)))
        self.assertEqual([reserve_option(instance, 0), reserve_option(instance, 1)], [2, 1])

    def test_an_empty_list(self):
        self.assertEqual(reserve_option(((1,), (((), 1), ((0,), 1))), 0), 0)

    def test_option_0_does_not_count_even_if_it_is_not_claimed(self):
        instance = ((5, 5, 1), (((0, 1), 1), ((0,), 1), ((2, 0), 1), ((2, 1), 1)))
        self.assertEqual([reserve_option(instance, group) for group in range(4)], [1, 1, 1, 1])

    def test_claimed_posts_are_passed_over(self):
        instance = ((1, 2, 3, 1), (((0, 1, 2, 3), 1), ((1, 0, 2), 2), ((2, 1, 0), 3), ((0, 1, 2), 1)))
        self.assertEqual([reserve_option(instance, group) for group in range(4)], [3, 3, 3, 3])

    def test_one_place_decides(self):
        groups = (((0, 1, 2), 4), ((1,), 5))
        found = [reserve_option(((4, capacity, 1), groups), 0) for capacity in (4, 5, 6)]
        self.assertEqual(found, [2, 2, 1])

    def test_many(self):
        rng = generator(8)
        skipped = 0
        for turn in range(2000):
            instance = rng.choice((some_instance, near_instance))(rng, rng.choice((4, BIG)))
            posts, groups = instance
            wanted = [sum(c for ranked, c in groups if ranked[:1] == (post,)) for post in range(len(posts))]
            for group, (ranked, count) in enumerate(groups):
                usable = [k for k, post in enumerate(ranked) if k >= 1 and wanted[post] < posts[post]]
                expected = min(usable + [len(ranked)])
                skipped += expected > 1
                self.assertEqual(reserve_option(instance, group), expected)
                self.assertEqual(reserve_option(instance, group), expected)
        self.assertGreater(skipped, 500)
