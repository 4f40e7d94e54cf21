import copy
import itertools
import unittest

from postvote.errors import BadList, BadNumber, NoGroup, NoPost, TooGreat, TooMany, VoteError
from postvote.instances import is_instance
from postvote.transforms import (
    join_instances, merge_groups, relabel_posts, scale_instance, split_group, trim_lists, with_capacity, with_count,
    with_list,
)
from postvote.unbeaten import find_verdict
from postvote.vectors import all_vectors, first_vector, is_vector, last_vector
from tests.reference import (
    fallback, reserve, right_index, right_list, right_number, tried_vectors, tuple_count,
)
from tests.support import (
    BIG, ODD_VALUES, crowded_instance, generator, many_crowded, many_instances, plain, some_instance, spoiled,
    wide_instance,
)

I = ((1, 1), (((0, 1), 2),))
K = ((1, 2, 1), (((0, 1), 2), ((0, 2), 2)))
MORE = (*ODD_VALUES, -2, 3, 4, 9, 10, 11, "1", (1,), (1, 0), (True,), (False, 1), [0, 1], (0, 0, 1), (None,), ("0",))


class TransformCase(unittest.TestCase):
    def check(self, call, told, result):
        for again in range(2):
            found = call(*told)
            self.assertEqual(plain(found), plain(result), told)
            self.assertIs(is_instance(found), True, told)

    def check_error(self, call, told, kind, **fields):
        """The error has this class and, in its fields, the very values."""
        before = repr(told)
        with self.assertRaises(kind) as caught:
            call(*told)
        self.assertIs(type(caught.exception), kind)
        self.assertEqual(set(vars(caught.exception)), set(fields))
        for name, value in fields.items():
            self.assertIs(getattr(caught.exception, name), value)
        self.assertEqual(repr(told), before)


class WithCapacity(TransformCase):
    def check_any(self, instance, post, capacity):
        told = (instance, post, capacity)
        if not right_index(post, len(instance[0])):
            self.check_error(with_capacity, told, NoPost, value=post)
        elif not right_number(capacity):
            self.check_error(with_capacity, told, BadNumber, value=capacity)
        else:
            posts = list(instance[0])
            posts[post] = capacity
            self.check(with_capacity, told, (tuple(posts), instance[1]))

    def test_example(self):
        self.check(with_capacity, (I, 1, 3), ((1, 3), (((0, 1), 2),)))

    def test_all_pairs_of_values(self):
        for post, capacity in itertools.product(MORE, MORE):
            self.check_any(K, post, capacity)

    def test_many(self):
        rng = generator(130)
        for instance in many_instances(rng, 200):
            for post in range(-1, len(instance[0]) + 1):
                self.check_any(instance, post, rng.choice((0, 1, 2, BIG, BIG + 1, rng.randint(1, BIG), True, -5)))


class WithCount(TransformCase):
    def check_any(self, instance, group, count):
        told = (instance, group, count)
        if not right_index(group, len(instance[1])):
            self.check_error(with_count, told, NoGroup, value=group)
        elif not right_number(count):
            self.check_error(with_count, told, BadNumber, value=count)
        else:
            groups = list(instance[1])
            groups[group] = (groups[group][0], count)
            self.check(with_count, told, (instance[0], tuple(groups)))

    def test_example(self):
        self.check_error(with_count, (I, 0, 0), BadNumber, value=0)

    def test_all_pairs_of_values(self):
        for group, count in itertools.product(MORE, MORE):
            self.check_any(K, group, count)

    def test_many(self):
        rng = generator(131)
        for instance in many_instances(rng, 200):
            for group in range(-1, len(instance[1]) + 1):
                self.check_any(instance, group, rng.choice((0, 1, 2, BIG, BIG + 1, rng.randint(1, BIG), True, -5)))


class WithList(TransformCase):
    def check_any(self, instance, group, posts):
        told = (instance, group, posts)
        if not right_index(group, len(instance[1])):
            self.check_error(with_list, told, NoGroup, value=group)
        elif not right_list(posts, len(instance[0])):
            self.check_error(with_list, told, BadList, value=posts)
        else:
            groups = list(instance[1])
            groups[group] = (posts, groups[group][1])
            self.check(with_list, told, (instance[0], tuple(groups)))

    def test_example(self):
        self.check(with_list, (I, 0, (1,)), ((1, 1), (((1,), 2),)))

    def test_all_pairs_of_values(self):
        for group, posts in itertools.product(MORE, MORE):
            self.check_any(K, group, posts)

    def test_all_short_lists(self):
        for size in range(5):
            for posts in itertools.product(range(-1, 4), repeat=size):
                self.check_any(K, 1, posts)
                self.check_any(K, 2, posts)

    def test_many(self):
        rng = generator(132)
        for instance in many_instances(rng, 200):
            size = len(instance[0])
            posts = tuple(rng.sample(range(size), rng.randint(0, size)))
            for value in (posts, list(posts), posts + posts[:1], posts + (size,), spoiled(rng, posts)):
                self.check_any(instance, rng.randrange(-1, len(instance[1]) + 1), value)


class TrimLists(TransformCase):
    def test_example(self):
        self.check(trim_lists, (((1, 1, 1), (((0, 1, 2), 2),)),), ((1, 1, 1), (((0, 1), 2),)))

    def test_by_hand(self):
        # Post 1 is claimed, post 2 is not; the second and the last list have no reserve post.
        posts = (1, 2, 3, 3)
        groups = (((0, 1, 2, 3), 2), ((1,), 2), ((), 1), ((3, 0, 1, 2), 1), ((2, 1, 0), 1))
        trimmed = (((0, 1, 2), 2), ((1,), 2), ((), 1), ((3, 0, 1, 2), 1), ((2, 1, 0), 1))
        self.check(trim_lists, ((posts, groups),), (posts, trimmed))

    def test_many(self):
        rng = generator(133)
        shorter = 0
        for instance in (*many_instances(rng, 300), *many_crowded(rng, 300)):
            groups = []
            for posts, count in instance[1]:
                kept = posts
                if posts and fallback(instance, posts) is not None:
                    kept = posts[:reserve(instance, posts) + 1]
                groups.append((kept, count))
            shorter += tuple(groups) != instance[1]
            self.check(trim_lists, (instance,), (instance[0], tuple(groups)))
            self.check(trim_lists, ((instance[0], tuple(groups)),), (instance[0], tuple(groups)))
        self.assertGreater(shorter, 200)

    def test_the_same_vectors(self):
        rng = generator(134)
        several = 0
        for turn in range(300):
            instance = crowded_instance(rng, 3)
            trimmed = trim_lists(instance)
            self.assertEqual(find_verdict(trimmed)[0], find_verdict(instance)[0])
            if tuple_count(instance) <= 500:
                vectors = tried_vectors(instance)
                self.assertEqual(tried_vectors(trimmed), vectors)
                if vectors:
                    several += len(vectors) > 1
                    self.assertEqual(all_vectors(trimmed), tuple(vectors))
            elif find_verdict(instance)[0] == "unbeaten":
                for call in (first_vector, last_vector):
                    self.assertEqual(call(trimmed), call(instance))
        self.assertGreater(several, 60)


class ScaleInstance(TransformCase):
    def test_example(self):
        self.check(scale_instance, (I, 3), ((3, 3), (((0, 1), 6),)))

    def test_many(self):
        rng = generator(135)
        found = {True: 0, False: 0}
        for instance in many_instances(rng, 300):
            for factor in (1, 2, 7, BIG // 30, BIG // 4, BIG // 4 + 1, BIG, BIG + 1, 10 ** 20):
                posts = tuple(capacity * factor for capacity in instance[0])
                groups = tuple((ranked, count * factor) for ranked, count in instance[1])
                good = max(posts) <= BIG and max(count for ranked, count in groups) <= BIG
                found[good] += 1
                if good:
                    self.check(scale_instance, (instance, factor), (posts, groups))
                else:
                    self.check_error(scale_instance, (instance, factor), TooGreat)
        self.assertGreater(min(found.values()), 500)

    def test_results_at_the_limit_and_beyond(self):
        self.check(scale_instance, (((5, 1), (((0,), 1),)), BIG // 5), ((BIG, BIG // 5), (((0,), BIG // 5),)))
        self.check(scale_instance, (((1, 1), (((0,), 5),)), BIG // 5), ((BIG // 5,) * 2, (((0,), BIG),)))
        self.check(scale_instance, (((1,), (((0,), 1),)), BIG), ((BIG,), (((0,), BIG),)))
        self.check(scale_instance, (((BIG,), (((0,), BIG),)), 1), ((BIG,), (((0,), BIG),)))
        self.check_error(scale_instance, (((1, 5), (((0,), 1),)), BIG // 5 + 1), TooGreat)
        self.check_error(scale_instance, (((1, 1), (((0,), 1), ((), 5))), BIG // 5 + 1), TooGreat)
        self.check_error(scale_instance, (((1,), (((0,), 1),)), BIG + 1), TooGreat)
        # A product that is just one more than BIG.
        self.assertEqual(73 * 13698630137, BIG + 1)
        self.check_error(scale_instance, (((73,), (((0,), 1),)), 13698630137), TooGreat)
        self.check_error(scale_instance, (((1,), (((0,), 73),)), 13698630137), TooGreat)


class SplitGroup(TransformCase):
    def check_any(self, instance, group, count):
        told = (instance, group, count)
        if not right_index(group, len(instance[1])):
            self.check_error(split_group, told, NoGroup, value=group)
        elif not right_number(count, instance[1][group][1] - 1):
            self.check_error(split_group, told, BadNumber, value=count)
        elif len(instance[1]) == 10:
            self.check_too_many(told)
        else:
            posts, total = instance[1][group]
            groups = list(instance[1])
            groups[group] = (posts, count)
            self.check(split_group, told, (instance[0], (*groups, (posts, total - count))))

    def check_too_many(self, told):
        with self.assertRaises(TooMany) as caught:
            split_group(*told)
        self.assertIs(type(caught.exception), TooMany)
        self.assertEqual(plain(caught.exception.limit), plain(10))

    def test_example(self):
        self.check(split_group, (I, 0, 1), ((1, 1), (((0, 1), 1), ((0, 1), 1))))

    def test_all_pairs_of_values(self):
        ten = ((5, 5), (((0, 1), 3),) * 9 + (((), BIG),))
        for instance in (((4, 4), (((0, 1), 3), ((1,), 12))), ((1,), (((0,), 1),)), ten):
            for group, count in itertools.product(MORE, MORE):
                self.check_any(instance, group, count)

    def test_the_ends_of_the_range(self):
        for total in (1, 2, 3, BIG):
            for count in (0, 1, total - 1, total, total + 1):
                self.check_any(((1,), (((), 7), ((0,), total))), 1, count)

    def test_all_groups_at_the_limit(self):
        for size in (9, 10):
            instance = ((1,), (((0,), 5),) * size)
            for group in range(-1, size + 1):
                for count in (0, 1, 4, 5):
                    self.check_any(instance, group, count)

    def test_many(self):
        rng = generator(136)
        for instance in many_instances(rng, 200):
            for group in range(len(instance[1])):
                total = instance[1][group][1]
                self.check_any(instance, group, rng.choice((1, total // 2, total - 1, total)))

    def test_merging_again(self):
        rng = generator(137)
        for instance in many_instances(rng, 200):
            whole = merge_groups_or_none(instance)
            if whole is None or len(whole[1]) == 10:
                continue
            for group in range(len(whole[1])):
                if whole[1][group][1] > 1:
                    parts = split_group(whole, group, rng.randint(1, whole[1][group][1] - 1))
                    self.assertEqual(merge_groups(parts), whole)


def merge_groups_or_none(instance):
    try:
        return merge_groups(instance)
    except TooGreat:
        return None


class MergeGroups(TransformCase):
    def test_example(self):
        told = (((1, 1), (((0, 1), 1), ((1,), 2), ((0, 1), 3))),)
        self.check(merge_groups, told, ((1, 1), (((0, 1), 4), ((1,), 2))))

    def test_many(self):
        rng = generator(138)
        found = {}
        for instance in many_instances(rng, 500):
            groups = []
            for posts, count in instance[1]:
                if posts not in [ranked for ranked, number in groups]:
                    same = [number for ranked, number in instance[1] if ranked == posts]
                    groups.append((posts, sum(same)))
            good = max(count for posts, count in groups) <= BIG
            found[good, len(groups) < len(instance[1])] = True
            if good:
                self.check(merge_groups, (instance,), (instance[0], tuple(groups)))
            else:
                self.check_error(merge_groups, (instance,), TooGreat)
        self.assertEqual(sorted(found), [(False, True), (True, False), (True, True)])

    def test_sums_at_the_limit_and_beyond(self):
        half = BIG // 2
        self.check(merge_groups, (((1,), (((0,), half), ((), BIG), ((0,), half))),), ((1,), (((0,), BIG), ((), BIG))))
        self.check_error(merge_groups, (((1,), (((0,), half), ((), BIG), ((0,), half + 1))),), TooGreat)
        self.check_error(merge_groups, (((1,), (((0,), 1), ((), BIG), ((), 1))),), TooGreat)
        self.check_error(merge_groups, (((1,), (((0,), BIG),) * 10),), TooGreat)

    def test_the_order_of_a_list_matters(self):
        instance = ((1, 1), (((0, 1), 1), ((1, 0), 2), ((0,), 3), ((), 4)))
        self.check(merge_groups, (instance,), instance)


class RelabelPosts(TransformCase):
    def test_example(self):
        self.check(relabel_posts, (K, (1, 0, 2)), ((2, 1, 1), (((1, 0), 2), ((1, 2), 2))))

    def test_all_orders(self):
        rng = generator(139)
        for turn in range(40):
            instance = some_instance(rng, BIG)
            size = len(instance[0])
            for order in list(itertools.permutations(range(size)))[:60]:
                numbers = {post: number for number, post in enumerate(order)}
                posts = tuple(instance[0][post] for post in order)
                groups = tuple((tuple(numbers[post] for post in ranked), count) for ranked, count in instance[1])
                self.check(relabel_posts, (instance, order), (posts, groups))
                back = tuple(numbers[post] for post in range(size))
                self.assertEqual(relabel_posts((posts, groups), back), instance)

    def test_three_posts_in_a_circle(self):
        instance = ((10, 20, 30), (((0, 1), 1), ((2,), 2)))
        self.check(relabel_posts, (instance, (1, 2, 0)), ((20, 30, 10), (((2, 0), 1), ((1,), 2))))

    def test_the_same_vectors(self):
        rng = generator(140)
        for instance in many_crowded(rng, 150):
            order = tuple(rng.sample(range(len(instance[0])), len(instance[0])))
            other = relabel_posts(instance, order)
            self.assertEqual(find_verdict(other)[0], find_verdict(instance)[0])
            if find_verdict(instance)[0] == "unbeaten":
                self.assertEqual(first_vector(other), first_vector(instance))
                self.assertEqual(last_vector(other), last_vector(instance))


class JoinInstances(TransformCase):
    def check_too_many(self, first, second, limit):
        with self.assertRaises(TooMany) as caught:
            join_instances(first, second)
        self.assertIs(type(caught.exception), TooMany)
        self.assertEqual(plain(caught.exception.limit), plain(limit))

    def test_example(self):
        self.check(join_instances, (I, I), ((1, 1, 1, 1), (((0, 1), 2), ((2, 3), 2))))

    def test_all_sizes(self):
        for posts, others in itertools.product(range(1, 7), repeat=2):
            for groups, more in itertools.product((1, 2, 4, 5, 6, 9, 10), repeat=2):
                first = (tuple(range(1, posts + 1)), (((0, posts - 1)[:posts], 3),) * groups)
                second = (tuple(range(11, others + 11)), (((others - 1,), 4), ((), 5))[:more] * ((more + 1) // 2))
                second = (second[0], second[1][:more])
                if posts + others > 6:
                    self.check_too_many(first, second, 6)
                elif groups + more > 10:
                    self.check_too_many(first, second, 10)
                else:
                    moved = tuple((tuple(post + posts for post in ranked), count) for ranked, count in second[1])
                    self.check(join_instances, (first, second), (first[0] + second[0], first[1] + moved))

    def test_the_greatest_size(self):
        first = ((BIG,) * 3, (((2, 1, 0), BIG),) * 5)
        second = ((1,) * 3, (((0, 2), 1),) * 5)
        self.check(join_instances, (first, second), ((BIG,) * 3 + (1,) * 3, first[1] + (((3, 5), 1),) * 5))

    def test_vectors_of_the_parts(self):
        rng = generator(141)
        joined = 0
        for turn in range(200):
            parts = [crowded_instance(rng, 4), crowded_instance(rng, 4)]
            try:
                both = join_instances(*parts)
            except VoteError:
                continue
            words = [find_verdict(part)[0] for part in parts]
            self.assertEqual(find_verdict(both)[0], max(words, key=("unbeaten", "shortage").index))
            if words == ["unbeaten", "unbeaten"]:
                joined += 1
                self.assertEqual(first_vector(both), first_vector(parts[0]) + first_vector(parts[1]))
                self.assertEqual(last_vector(both), last_vector(parts[0]) + last_vector(parts[1]))
                self.assertIs(is_vector(both, first_vector(parts[0]) + last_vector(parts[1])), True)
        self.assertGreater(joined, 10)


class Arguments(unittest.TestCase):
    def test_they_do_not_change(self):
        rng = generator(142)
        for turn in range(100):
            instance, other = some_instance(rng, BIG), wide_instance(rng, BIG)
            one, two = rng.choice(MORE), spoiled(rng, (0, 1, 2))
            order = tuple(range(len(instance[0])))[::-1]
            told = (instance, other, one, two, order)
            before = copy.deepcopy(told)
            calls = (
                lambda: with_capacity(instance, one, two), lambda: with_capacity(instance, 0, two),
                lambda: with_count(instance, one, two), lambda: with_count(instance, 0, two),
                lambda: with_list(instance, one, two), lambda: with_list(instance, 0, two),
                lambda: split_group(instance, one, two), lambda: split_group(instance, 0, one),
                lambda: trim_lists(instance), lambda: scale_instance(instance, 2), lambda: merge_groups(instance),
                lambda: relabel_posts(instance, order), lambda: join_instances(instance, other),
            )
            for call in calls:
                try:
                    call()
                except (VoteError, LookupError):
                    pass
            self.assertEqual(repr(told), repr(before))
