import copy
import itertools
import unittest

from postvote.assignments import empty_assignment
from postvote.changes import change_result, change_surplus, is_change, stay_change
from postvote.margins import margin, margin_certificate, margin_holds, price_limit
from tests.support import (
    BIG, ODD_VALUES, generator, many_instances, near_instance, part_at, paths, plain, replaced, small_changes,
    small_instance, some_assignment, some_change, some_instance, spoiled, wide_instance,
)

I = ((1, 1), (((0, 1), 2),))
K = ((1, 2, 1), (((0, 1), 2), ((0, 2), 2)))


def counted_limit(instance, assignment, prices):
    """The limit, read off DOC.md: each applicant takes the best of what is better, the same, and worse."""
    total = sum(prices[post] * instance[0][post] for post in range(len(prices)))
    for (posts, count), share in zip(instance[1], assignment):
        values = [-prices[post] for post in posts] + [-0]
        for at in range(len(share)):
            better = [value + 1 for value in values[:at]]
            worse = [value - 1 for value in values[at + 1:]]
            total += share[at] * max(better + values[at:at + 1] + worse)
    return total


def all_prices(instance):
    return itertools.product((0, 1, 2), repeat=len(instance[0]))


def least_limit(instance, assignment):
    return min(counted_limit(instance, assignment, prices) for prices in all_prices(instance))


def most_with_a_post(instance):
    """By Hall's condition: those who are kept out by some posts being full, and the places of the others."""
    posts, groups = instance
    least = None
    for size in range(len(posts) + 1):
        for full in itertools.combinations(range(len(posts)), size):
            others = sum(count for ranked, count in groups if set(ranked) - set(full))
            bound = sum(posts[post] for post in full) + others
            least = bound if least is None else min(least, bound)
    return least


def expected_holds(instance, assignment, value):
    """Whether value is right, read off DOC.md; whether the change is one is tested in test_changes."""
    if type(value) is not tuple or len(value) != 3 or type(value[0]) is not int:
        return False
    number, change, prices = value
    if not is_change(instance, assignment, change) or change_surplus(change) != number:
        return False
    if type(prices) is not tuple or len(prices) != len(instance[0]):
        return False
    if [price for price in prices if type(price) is not int or price not in (0, 1, 2)]:
        return False
    return counted_limit(instance, assignment, prices) == number


class PriceLimit(unittest.TestCase):
    def test_example(self):
        found = [price_limit(I, ((1, 1, 0),), (1, 0)), price_limit(I, ((0, 0, 2),), (0, 0))]
        self.assertEqual(found, [0, 2])

    def test_by_hand(self):
        assignment = ((1, 1, 0), (0, 1, 1))
        self.assertEqual(price_limit(K, assignment, (0, 0, 0)), 3)
        self.assertEqual(price_limit(K, assignment, (1, 1, 1)), 3)
        self.assertEqual(price_limit(K, assignment, (2, 2, 2)), 5)
        self.assertEqual(price_limit(K, assignment, (2, 0, 1)), 1)

    def test_empty_lists(self):
        instance = ((2, 3), (((), 5), ((1,), 4)))
        for prices in itertools.product(range(3), repeat=2):
            limit = 2 * prices[0] + 3 * prices[1] + 4 * max(0, 1 - prices[1])
            self.assertEqual(price_limit(instance, ((5,), (0, 4)), prices), limit)

    def test_great_numbers(self):
        instance = ((BIG,) * 6, (((5, 0), BIG),) * 10)
        nobody = ((0, 0, BIG),) * 10
        self.assertEqual(price_limit(instance, nobody, (0,) * 6), 10 * BIG)
        self.assertEqual(price_limit(instance, nobody, (1, 0, 0, 0, 0, 1)), 2 * BIG)
        self.assertEqual(price_limit(instance, nobody, (2,) * 6), 12 * BIG)

    def test_many(self):
        rng = generator(30)
        for instance in many_instances(rng, 600):
            assignment = some_assignment(rng, instance)
            size = len(instance[0])
            mixed = [tuple(rng.choices(range(3), k=size)) for turn in range(4)]
            for prices in ((0,) * size, (1,) * size, (2,) * size, *mixed):
                limit = counted_limit(instance, assignment, prices)
                self.assertEqual(price_limit(instance, assignment, prices), limit)
                self.assertEqual(price_limit(instance, assignment, prices), limit)

    def test_no_change_is_above_it(self):
        rng = generator(31)
        for instance in many_instances(rng, 300):
            start = some_assignment(rng, instance)
            change = some_change(rng, start, some_assignment(rng, instance))
            prices = tuple(rng.choices(range(3), k=len(instance[0])))
            self.assertLessEqual(change_surplus(change), price_limit(instance, start, prices))


class Margin(unittest.TestCase):
    def check(self, instance, assignment, number):
        """Both functions find this number, and the certificate shows it."""
        told = (instance, assignment)
        for again in range(2):
            found = margin(instance, assignment)
            self.assertEqual(plain(found), plain(number), told)
        certificate = margin_certificate(instance, assignment)
        self.assertEqual((type(certificate), len(certificate)), (tuple, 3))
        self.assertEqual(plain(certificate[0]), plain(number), told)
        self.assertIs(is_change(instance, assignment, certificate[1]), True, told)
        self.assertEqual(change_surplus(certificate[1]), number, told)
        self.assertEqual(plain(certificate[2]), plain(tuple(int(price) for price in certificate[2])))
        self.assertEqual(len(certificate[2]), len(instance[0]), told)
        self.assertLessEqual(set(certificate[2]), {0, 1, 2}, told)
        self.assertEqual(counted_limit(instance, assignment, certificate[2]), number, told)
        self.assertIs(margin_holds(instance, assignment, certificate), True, told)
        self.assertEqual(plain(margin_certificate(instance, assignment)), plain(certificate), told)

    def test_examples(self):
        self.assertEqual([margin(I, ((1, 1, 0),)), margin(I, ((0, 0, 2),)), margin(I, ((1, 0, 1),))], [0, 2, 1])
        self.assertIs(margin_holds(I, ((0, 0, 2),), margin_certificate(I, ((0, 0, 2),))), True)

    def test_small_instances(self):
        rng = generator(32)
        found = {}
        for turn in range(500):
            instance = small_instance(rng)
            assignment = some_assignment(rng, instance)
            number = max(small_changes(instance, assignment).values())
            self.assertEqual(least_limit(instance, assignment), number)
            self.check(instance, assignment, number)
            found[number] = found.get(number, 0) + 1
        for number in range(5):
            self.assertGreater(found[number], 5)

    def test_large_instances(self):
        rng = generator(33)
        used = set()
        for instance in many_instances(rng, 120):
            assignment = some_assignment(rng, instance)
            self.check(instance, assignment, least_limit(instance, assignment))
            used.update(margin_certificate(instance, assignment)[2])
        self.assertEqual(used, {0, 1, 2})

    def test_repeated_improvement(self):
        rng = generator(34)
        for instance in many_instances(rng, 200):
            assignment = some_assignment(rng, instance)
            for step in range(4):
                number, change, prices = margin_certificate(instance, assignment)
                self.check(instance, assignment, number)
                self.assertGreaterEqual(number, 0)
                assignment = change_result(instance, assignment, change)

    def test_a_chain_of_moves_through_all_posts(self):
        posts = (BIG,) * 6
        groups = tuple(((post, post - 1), BIG) for post in range(1, 6)) + (((5,), BIG),)
        start = ((0, BIG, 0),) * 5 + ((0, BIG),)
        self.check((posts, groups), start, 5 * BIG)
        groups = tuple(((post - 1, post), BIG) for post in range(1, 6)) + (((0,), BIG),)
        start = ((BIG, 0, 0),) * 5 + ((0, BIG),)
        self.check((posts, groups), start, 0)
        self.check(((BIG,) * 5 + (1,), groups), ((BIG, 0, 0),) * 5 + ((0, BIG),), 0)

    def test_a_price_of_two_is_needed(self):
        instance = ((1, 2), (((0, 1), 2), ((1,), 2)))
        assignment = ((0, 2, 0), (0, 2))
        right = [prices for prices in all_prices(instance) if counted_limit(instance, assignment, prices) == 2]
        self.assertEqual(right, [(2, 1)])
        self.check(instance, assignment, 2)

    def test_empty_assignments(self):
        rng = generator(35)
        for instance in many_instances(rng, 300):
            self.check(instance, empty_assignment(instance), most_with_a_post(instance))

    def test_empty_lists(self):
        self.check(((1,), (((), BIG),)), ((BIG,),), 0)
        self.check(((3,), (((), BIG), ((0,), 5))), ((BIG,), (1, 4)), 2)

    def test_capacities_close_to_the_demand(self):
        rng = generator(36)
        for turn in range(60):
            instance = near_instance(rng, BIG)
            assignment = some_assignment(rng, instance)
            post = rng.randrange(len(instance[0]))
            for more in (0, 1, 2):
                larger = replaced(instance, (0, post), instance[0][post] + more)
                self.check(larger, assignment, least_limit(larger, assignment))

    def test_arguments_do_not_change(self):
        rng = generator(37)
        for instance in many_instances(rng, 60):
            assignment = some_assignment(rng, instance)
            prices = tuple(rng.choices(range(3), k=len(instance[0])))
            value = spoiled(rng, spoiled(rng, margin_certificate(instance, assignment)))
            before = copy.deepcopy((instance, assignment, prices, value))
            price_limit(instance, assignment, prices)
            margin(instance, assignment)
            margin_certificate(instance, assignment)
            margin_holds(instance, assignment, value)
            self.assertEqual(repr((instance, assignment, prices, value)), repr(before))


class MarginHolds(unittest.TestCase):
    def check(self, instance, assignment, value, answer):
        told = (instance, assignment, value)
        self.assertIs(margin_holds(*told), answer, told)
        self.assertIs(margin_holds(*told), answer, told)

    def test_example(self):
        self.check(I, ((1, 1, 0),), (0, (((1, 0, 0), (0, 1, 0), (0, 0, 0)),), (1, 0)), True)

    def test_certificates_of_anybody(self):
        assignment = ((1, 1, 0),)
        for change, surplus in small_changes(I, assignment).items():
            for prices in all_prices(I):
                limit = counted_limit(I, assignment, prices)
                for number in range(-3, 6):
                    answer = number == surplus == limit
                    self.check(I, assignment, (number, change, prices), answer)

    def test_all_certificates_of_small_instances(self):
        rng = generator(38)
        several = 0
        for turn in range(80):
            instance = small_instance(rng, 4)
            assignment = some_assignment(rng, instance)
            number = margin(instance, assignment)
            right = 0
            for change, surplus in small_changes(instance, assignment).items():
                for prices in all_prices(instance):
                    answer = surplus == number == counted_limit(instance, assignment, prices)
                    right += answer
                    self.assertIs(margin_holds(instance, assignment, (number, change, prices)), answer)
            self.assertGreater(right, 0)
            several += right > 1
        self.assertGreater(several, 20)

    def test_other_numbers(self):
        assignment = ((0, 0, 2),)
        number, change, prices = margin_certificate(I, assignment)
        self.assertEqual(number, 2)
        for other in (-2, 0, 1, 3, 2 * BIG, True, None, "2", (2,), [2]):
            self.check(I, assignment, (other, change, prices), False)
        one = ((1, 0, 1),)
        certificate = margin_certificate(I, one)
        self.check(I, one, (True, *certificate[1:]), False)
        none = ((1, 1, 0),)
        certificate = margin_certificate(I, none)
        self.check(I, none, certificate, True)
        self.check(I, none, (False, *certificate[1:]), False)

    def test_other_prices(self):
        assignment = ((1, 1, 0),)
        stay = stay_change(assignment)
        self.check(I, assignment, (0, stay, (1, 0)), True)
        wrong = (
            (0, 0), (1, 1), (0, 1), (2, 0), (3, 0), (1, -1), (True, 0), (1, False), (1,), (1, 0, 0), (), [1, 0],
            None, 1, "10", ((1, 0),), (1, None), (1, "0"), {}, {"0": 1, "1": 0},
        )
        for prices in wrong:
            self.check(I, assignment, (0, stay, prices), False)

    def test_prices_out_of_range_whose_limit_is_right(self):
        self.check(((3, 1), (((), 1),)), ((1,),), (0, (((1,),),), (-1, 3)), False)
        instance = ((2, 3), (((0,), 1), ((), 1)))
        assignment = ((0, 1), (1,))
        self.assertEqual(counted_limit(instance, assignment, (3, -2)), 0)
        self.check(instance, assignment, (0, stay_change(assignment), (3, -2)), False)
        rng = generator(42)
        tried = {}
        for turn in range(60):
            instance = small_instance(rng, 3)
            assignment = some_assignment(rng, instance)
            changes = {surplus: change for change, surplus in small_changes(instance, assignment).items()}
            for prices in itertools.product(range(-2, 5), repeat=len(instance[0])):
                number = counted_limit(instance, assignment, prices)
                if number in changes:
                    answer = set(prices) <= {0, 1, 2}
                    self.check(instance, assignment, (number, changes[number], prices), answer)
                    tried[answer] = tried.get(answer, 0) + 1
        self.assertGreater(min(tried[True], tried[False]), 50)

    def test_other_changes(self):
        assignment = ((1, 1, 0),)
        for change in (stay_change(((0, 0, 2),)), stay_change(((1, 0, 1),)), (((0, 0, 1), (1, 0, 0), (0, 0, 0)),)):
            self.assertIs(change_surplus(change) == 0, True)
            self.check(I, assignment, (0, change, (1, 0)), expected_holds(I, assignment, (0, change, (1, 0))))
        self.check(I, assignment, (0, (((2, -1, 0), (-1, 2, 0), (0, 0, 0)),), (1, 0)), False)
        self.check(I, assignment, (0, (((0, 1, 0), (1, 0, 0), (0, 0, 0)),), (1, 0)), True)

    def test_odd_values_in_every_place(self):
        assignment = ((1, 1, 0), (0, 1, 1))
        certificate = margin_certificate(K, assignment)
        for path in paths(certificate):
            for part in ODD_VALUES:
                changed = replaced(certificate, path, part)
                self.check(K, assignment, changed, expected_holds(K, assignment, changed))
            part = part_at(certificate, path)
            if isinstance(part, tuple):
                for other in (list(part), part[:-1], part + part[-1:], part + (0,), part[::-1]):
                    changed = replaced(certificate, path, other)
                    self.check(K, assignment, changed, expected_holds(K, assignment, changed))

    def test_bools_in_every_place(self):
        rng = generator(39)
        tried = 0
        for turn in range(60):
            instance = some_instance(rng, 2)
            assignment = some_assignment(rng, instance)
            certificate = margin_certificate(instance, assignment)
            for path in paths(certificate):
                part = part_at(certificate, path)
                if part in (0, 1):
                    tried += 1
                    changed = replaced(certificate, path, bool(part))
                    self.assertEqual(changed, certificate)
                    self.check(instance, assignment, changed, False)
        self.assertGreater(tried, 1000)

    def test_many_spoiled_ones(self):
        rng = generator(40)
        answers = []
        for instance in many_instances(rng, 500):
            assignment = some_assignment(rng, instance)
            certificate = margin_certificate(instance, assignment)
            self.check(instance, assignment, certificate, True)
            once = spoiled(rng, certificate)
            other = margin_certificate(instance, some_assignment(rng, instance))
            mixed = tuple(rng.choice(pair) for pair in zip(certificate, other))
            size = len(instance[0])
            priced = replaced(certificate, (2, rng.randrange(size)), rng.choice((-1, 0, 1, 2, 3)))
            for value in (once, spoiled(rng, once), other, mixed, priced):
                answers.append(expected_holds(instance, assignment, value))
                self.check(instance, assignment, value, answers[-1])
        self.assertGreater(answers.count(True), 100)
        self.assertGreater(answers.count(False), 100)

    def test_certificates_of_the_greatest_instances(self):
        rng = generator(41)
        for turn in range(30):
            instance = wide_instance(rng, BIG)
            assignment = some_assignment(rng, instance)
            certificate = margin_certificate(instance, assignment)
            self.check(instance, assignment, certificate, True)
            self.check(instance, assignment, (certificate[0] + 1, *certificate[1:]), False)
