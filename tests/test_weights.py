import copy
import itertools
import unittest

from postvote.errors import BadPrices, NoUnbeaten
from postvote.transports import Transport
from postvote.unbeaten import shortfall
from postvote.vectors import first_vector, last_vector
from postvote.weights import best_certificate, best_holds, price_bound, vector_value
from tests.reference import (
    fallback, greatest_shortfall, right_vector, sorted_out, tried_vectors, tuple_count, wishes,
)
from tests.support import (
    BIG, ODD_VALUES, crowded_instance, generator, many_crowded, part_at, paths, plain, replaced, small_instance,
    spoiled,
)

HEAVY = 10 ** 9
LIMIT = 10 ** 12
J = ((1, 1), (((0, 1), 3),))
K = ((1, 2, 1), (((0, 1), 2), ((0, 2), 2)))
# Post 0 is crowded, 1 is claimed but not crowded, 2 and 3 are not claimed.
WIDE = ((2, 3, 4, 5), (((0, 2), 4), ((0, 1, 3), 3), ((0, 1), 1), ((1,), 3), ((3, 0), 2), ((), 9)))


def some_weights(rng, instance):
    most = rng.choice((1, 5, HEAVY))
    return tuple(rng.choice((0, most, -most, rng.randint(-most, most))) for group in instance[1])


def some_prices(rng, instance, most=6):
    """Vector prices of the instance."""
    crowded, unclaimed = sorted_out(instance)
    posts = range(len(instance[0]))
    crowd = tuple(rng.randint(-most, most) if post in crowded else 0 for post in posts)
    return crowd, tuple(rng.randint(0, most) if post in unclaimed else 0 for post in posts)


def counted_bound(instance, weights, prices):
    """The bound, read off DOC.md."""
    crowd, places = prices
    total = 0
    for post, (wanted, capacity) in enumerate(zip(wishes(instance), instance[0])):
        if wanted > capacity:
            total += (wanted - capacity) * crowd[post]
        else:
            total += (capacity - wanted) * places[post]
    crowded = sorted_out(instance)[0]
    for (posts, count), weight in zip(instance[1], weights):
        if posts and posts[0] in crowded:
            other = fallback(instance, posts)
            gain = weight - crowd[posts[0]] - (places[other] if other is not None else 0)
            total += count * gain if gain > 0 else 0
    return total


def right_prices(instance, value):
    """Whether value is vector prices, read off DOC.md."""
    if type(value) is not tuple or len(value) != 2:
        return False
    crowded, unclaimed = sorted_out(instance)
    for row, kept, least in zip(value, (crowded, unclaimed), (-LIMIT, 0)):
        if type(row) is not tuple or len(row) != len(instance[0]) or {type(price) for price in row} != {int}:
            return False
        for post, price in enumerate(row):
            if not (least <= price <= LIMIT if post in kept else price == 0):
                return False
    return True


def expected_holds(instance, weights, value):
    """Whether value is a right certificate, read off DOC.md."""
    if type(value) is not tuple or len(value) != 3 or type(value[0]) is not int:
        return False
    number, vector, prices = value
    if not right_vector(instance, vector) or not right_prices(instance, prices):
        return False
    return counted_value(weights, vector) == number == counted_bound(instance, weights, prices)


def counted_value(weights, vector):
    return sum(weights[at] * vector[at] for at in range(len(weights)))


class VectorValue(unittest.TestCase):
    def test_example(self):
        self.assertEqual(vector_value((5, -1), (2, 1)), 9)

    def test_many(self):
        rng = generator(100)
        for turn in range(300):
            size = rng.randint(1, 10)
            weights = tuple(rng.choice((0, HEAVY, -HEAVY, rng.randint(-HEAVY, HEAVY))) for at in range(size))
            vector = tuple(rng.choice((0, 1, BIG, rng.randint(0, BIG))) for at in range(size))
            for again in range(2):
                self.assertEqual(plain(vector_value(weights, vector)), plain(counted_value(weights, vector)))
        self.assertEqual(vector_value((HEAVY,) * 10, (BIG,) * 10), 10 ** 22)
        self.assertEqual(vector_value((-HEAVY,) * 10, (BIG,) * 10), -10 ** 22)


class PriceBound(unittest.TestCase):
    def check_bad(self, instance, weights, prices):
        with self.assertRaises(BadPrices) as caught:
            price_bound(instance, weights, prices)
        self.assertIs(type(caught.exception), BadPrices)

    def test_example(self):
        self.check_bad(K, (5, -1), ((0, 0, 0), (4, 0, 0)))

    def test_by_hand(self):
        # Excess 6, free places (0, 0, 4, 3).
        weights = (5, -1, 2, 9, 9, 9)
        self.assertEqual(price_bound(WIDE, weights, ((0, 0, 0, 0), (0, 0, 0, 0))), 20 + 2)
        self.assertEqual(price_bound(WIDE, weights, ((-1, 0, 0, 0), (0, 0, 0, 0))), -6 + 24 + 3)
        self.assertEqual(price_bound(WIDE, weights, ((2, 0, 0, 0), (0, 0, 1, 0))), 12 + 4 + 8)
        self.assertEqual(price_bound(WIDE, weights, ((-3, 0, 0, 0), (0, 0, 2, 4))), -18 + 8 + 12 + 24 + 5)
        self.assertEqual(price_bound(K, (5, -1), ((-1, 0, 0), (0, 0, 0))), 9)

    def test_many(self):
        rng = generator(101)
        for instance in many_crowded(rng, 500):
            weights = some_weights(rng, instance)
            for prices in (some_prices(rng, instance), some_prices(rng, instance, LIMIT)):
                bound = counted_bound(instance, weights, prices)
                for again in range(2):
                    self.assertEqual(plain(price_bound(instance, weights, prices)), plain(bound))

    def test_no_vector_is_above_it(self):
        rng = generator(102)
        for instance in many_crowded(rng, 300):
            if greatest_shortfall(instance) > 0:
                continue
            weights = some_weights(rng, instance)
            bound = price_bound(instance, weights, some_prices(rng, instance, rng.choice((3, HEAVY))))
            for vector in (first_vector(instance), last_vector(instance)):
                self.assertLessEqual(vector_value(weights, vector), bound)

    def test_limits_of_prices(self):
        weights = (1, 0, 0, 0, 0, 0)
        for price in (-LIMIT, LIMIT):
            prices = ((price, 0, 0, 0), (0, 0, LIMIT, LIMIT))
            self.assertEqual(price_bound(WIDE, weights, prices), counted_bound(WIDE, weights, prices))
        for price in (-LIMIT - 1, LIMIT + 1):
            self.check_bad(WIDE, weights, ((price, 0, 0, 0), (0, 0, 0, 0)))
        for price in (-1, -LIMIT, LIMIT + 1):
            self.check_bad(WIDE, weights, ((0, 0, 0, 0), (0, 0, price, 0)))
            self.check_bad(WIDE, weights, ((0, 0, 0, 0), (0, 0, 0, price)))

    def test_a_price_where_there_is_none(self):
        weights = (0,) * 6
        for post in (1, 2, 3):
            for price in (-1, 1, LIMIT):
                self.check_bad(WIDE, weights, (replaced((0, 0, 0, 0), (post,), price), (0, 0, 0, 0)))
        for post in (0, 1):
            for price in (-1, 1, LIMIT):
                self.check_bad(WIDE, weights, ((0, 0, 0, 0), replaced((0, 0, 0, 0), (post,), price)))

    def test_wrong_values(self):
        good = ((-1, 0, 0), (0, 1, 0))
        self.assertEqual(price_bound(K, (5, -1), good), counted_bound(K, (5, -1), good))
        wrong = (
            [(-1, 0, 0), (0, 1, 0)], ([-1, 0, 0], (0, 1, 0)), ((-1, 0, 0), [0, 1, 0]), ((-1, 0, 0),), (),
            ((-1, 0, 0), (0, 1, 0), (0, 0, 0)), ((-1, 0), (0, 1, 0)), ((-1, 0, 0), (0, 1)), ((-1, 0, 0, 0), (0, 1, 0)),
            ((-1, 0, 0), (0, 1, 0, 0)), ((-1, False, 0), (0, 1, 0)), ((True, 0, 0), (0, 1, 0)),
            ((-1, 0, 0), (0, True, 0)), ((-1, 0, 0), (False, 1, 0)), ((-1, 0, 0), (0, 1, False)), ((None, 0, 0), (0, 1, 0)),
            (("-1", 0, 0), (0, 1, 0)), (-1, 0, 0, 0, 1, 0), ((-1, 0, 0), None), None, "prices", 0, {}, {"crowd": 0},
        )
        for value in wrong:
            self.check_bad(K, (5, -1), value)
        for value in ODD_VALUES:
            self.check_bad(K, (5, -1), value)
            self.check_bad(K, (5, -1), (good[0], value))
            self.check_bad(K, (5, -1), (value, good[1]))
            # An instance without a vector has prices too.
            self.check_bad(J, (1,), value)

    def test_many_spoiled_ones(self):
        rng = generator(103)
        answers = []
        for instance in many_crowded(rng, 800):
            weights = some_weights(rng, instance)
            prices = some_prices(rng, instance)
            at = (rng.randrange(2), rng.randrange(len(instance[0])))
            moved = replaced(prices, at, rng.choice((-1, 0, 1, LIMIT, LIMIT + 1, -LIMIT, -LIMIT - 1)))
            for value in (spoiled(rng, prices), moved, prices[::-1]):
                answers.append(right_prices(instance, value))
                if answers[-1]:
                    self.assertEqual(price_bound(instance, weights, value), counted_bound(instance, weights, value))
                else:
                    self.check_bad(instance, weights, value)
        self.assertGreater(answers.count(True), 300)
        self.assertGreater(answers.count(False), 300)


class BestCertificate(unittest.TestCase):
    def check(self, instance, weights):
        """The certificate is right; returns its number."""
        told = (instance, weights)
        certificate = best_certificate(instance, weights)
        self.assertIs(expected_holds(instance, weights, certificate), True, (told, certificate))
        self.assertIs(best_holds(instance, weights, certificate), True, told)
        self.assertEqual(plain(best_certificate(instance, weights)), plain(certificate), told)
        return certificate[0]

    def check_none(self, instance, weights):
        with self.assertRaises(NoUnbeaten) as caught:
            best_certificate(instance, weights)
        self.assertIs(type(caught.exception), NoUnbeaten)
        self.assertGreater(shortfall(instance, caught.exception.crowded, caught.exception.reserves), 0)

    def test_example(self):
        self.assertIs(best_holds(K, (5, -1), best_certificate(K, (5, -1))), True)
        self.assertEqual(best_certificate(K, (5, -1))[:2], (9, (2, 1)))

    def test_small_instances(self):
        rng = generator(104)
        found = {True: 0, False: 0}
        while sum(found.values()) < 500:
            instance = rng.choice((crowded_instance, crowded_instance, small_instance))(rng, 3)
            if tuple_count(instance) > 1500:
                continue
            vectors = tried_vectors(instance)
            found[len(vectors) > 0] += 1
            for turn in range(3):
                weights = some_weights(rng, instance)
                if vectors:
                    best = max(counted_value(weights, vector) for vector in vectors)
                    self.assertEqual(self.check(instance, weights), best)
                else:
                    self.check_none(instance, weights)
        self.assertGreater(found[True], 300)
        self.assertGreater(found[False], 15)

    def test_large_instances(self):
        rng = generator(105)
        found = {True: 0, False: 0}
        for instance in many_crowded(rng, 600):
            good = greatest_shortfall(instance) <= 0
            found[good] += 1
            weights = some_weights(rng, instance)
            if good:
                best = self.check(instance, weights)
                for vector in (first_vector(instance), last_vector(instance)):
                    self.assertLessEqual(vector_value(weights, vector), best)
            else:
                self.check_none(instance, weights)
        self.assertGreater(min(found.values()), 100)

    def test_equal_weights(self):
        rng = generator(106)
        for instance in many_crowded(rng, 200):
            if greatest_shortfall(instance) > 0:
                continue
            excess = sum(max(0, wanted - places) for wanted, places in zip(wishes(instance), instance[0]))
            for weight in (0, 1, -1, 7, HEAVY, -HEAVY):
                self.assertEqual(self.check(instance, (weight,) * len(instance[1])), weight * excess)

    def test_heavy_weights_of_both_signs(self):
        rng = generator(107)
        for turn in range(200):
            instance = crowded_instance(rng, BIG)
            if greatest_shortfall(instance) <= 0:
                self.check(instance, tuple(rng.choice((HEAVY, -HEAVY)) for group in instance[1]))
                self.check(instance, tuple(rng.choice((HEAVY, HEAVY - 1, 1 - HEAVY, -HEAVY)) for group in instance[1]))

    def test_weights_of_groups_without_a_reserve_do_not_matter(self):
        for heavy in (0, HEAVY, -HEAVY):
            self.assertEqual(self.check(WIDE, (5, -1, 2, heavy, heavy, heavy)), 20 + 2 - 1)

    def test_a_long_way_through_all_posts(self):
        # What leaves post 0 must push the others on, each to the next reserve.
        groups = (((0, 1), 5), ((2, 1), 5), ((2, 3), 5), ((4, 3), 5), ((4, 5), 5))
        for places in itertools.product((1, 3, 5), repeat=3):
            instance = ((4, places[0], 6, places[1], 6, places[2]), groups)
            for weights in itertools.product((-HEAVY, 3, HEAVY), repeat=5):
                if greatest_shortfall(instance) > 0:
                    self.check_none(instance, weights)
                else:
                    self.check(instance, weights)

    def test_full_reserves_without_a_way_out(self):
        instance = ((2, 3, 4), (((0, 2), 4), ((1, 2), 5)))
        for weights in ((0, 0), (HEAVY, -HEAVY), (-HEAVY, HEAVY), (-HEAVY, -HEAVY), (HEAVY, HEAVY)):
            self.assertEqual(self.check(instance, weights), 2 * weights[0] + 2 * weights[1])

    def test_a_few_steps_are_enough_for_great_numbers(self):
        pushes = []
        push = Transport.push

        def counted(transport, found, end, amount):
            pushes.append(amount)
            return push(transport, found, end, amount)

        rng = generator(108)
        Transport.push = counted
        try:
            for turn in range(200):
                instance = crowded_instance(rng, BIG)
                if greatest_shortfall(instance) <= 0:
                    best_certificate(instance, some_weights(rng, instance))
        finally:
            Transport.push = push
        self.assertLess(len(pushes), 200 * 10 * 4)


class BestHolds(unittest.TestCase):
    def check(self, instance, weights, value, answer):
        told = (instance, weights, value)
        self.assertIs(best_holds(*told), answer, told)
        self.assertIs(best_holds(*told), answer, told)

    def test_example(self):
        self.check(K, (5, -1), (9, (2, 1), ((-1, 0, 0), (0, 0, 0))), True)

    def test_certificates_of_anybody(self):
        instance = ((1, 2, 2), (((0, 1), 2), ((0, 2), 2)))
        weights = (3, -2)
        right = 0
        for vector in tried_vectors(instance):
            for crowd, one, two in itertools.product(range(-5, 6), range(4), range(4)):
                prices = ((crowd, 0, 0), (0, one, two))
                bound = counted_bound(instance, weights, prices)
                for number in (bound, counted_value(weights, vector), bound + 1):
                    answer = number == bound == counted_value(weights, vector)
                    right += answer
                    self.check(instance, weights, (number, vector, prices), answer)
        self.assertGreater(right, 3)

    def test_other_numbers(self):
        weights = (5, -1)
        for number in (-9, 0, 8, 10, True, None, "9", (9,), [9], 9.0):
            self.check(K, weights, (number, (2, 1), ((-1, 0, 0), (0, 0, 0))), False)
        for flag in (True, False):
            number = int(flag)
            one = ((1, 1), (((0, 1), 2),))
            certificate = best_certificate(one, (number,))
            self.assertEqual(certificate[0], number)
            self.check(one, (number,), certificate, True)
            self.check(one, (number,), (flag, *certificate[1:]), False)

    def test_every_value_is_wrong_without_a_vector(self):
        for value in (*ODD_VALUES, (0, (1,), ((0, 0), (0, 0))), (2, (2,), ((1, 0), (0, 0))), (0, (0,), ((0, 0), (0, 0)))):
            for weight in (0, 1, -1):
                self.check(J, (weight,), value, False)

    def test_odd_values_in_every_place(self):
        for instance, weights in ((K, (5, -1)), (WIDE, (5, -1, 2, 0, 3, 4))):
            certificate = best_certificate(instance, weights)
            for path in paths(certificate):
                for part in ODD_VALUES:
                    changed = replaced(certificate, path, part)
                    self.check(instance, weights, changed, expected_holds(instance, weights, changed))
                part = part_at(certificate, path)
                if isinstance(part, tuple):
                    for other in (list(part), part[:-1], part + part[-1:], part + (0,), part[::-1]):
                        changed = replaced(certificate, path, other)
                        self.check(instance, weights, changed, expected_holds(instance, weights, changed))

    def test_bools_in_every_place(self):
        rng = generator(109)
        tried = 0
        for turn in range(100):
            instance = crowded_instance(rng, 2)
            if greatest_shortfall(instance) > 0:
                continue
            weights = tuple(rng.randint(-1, 1) for group in instance[1])
            certificate = best_certificate(instance, weights)
            for path in paths(certificate):
                part = part_at(certificate, path)
                if part in (0, 1):
                    tried += 1
                    self.check(instance, weights, replaced(certificate, path, bool(part)), False)
        self.assertGreater(tried, 500)

    def test_many_spoiled_ones(self):
        rng = generator(110)
        answers = []
        for instance in many_crowded(rng, 500):
            if greatest_shortfall(instance) > 0:
                continue
            weights, others = some_weights(rng, instance), some_weights(rng, instance)
            certificate = best_certificate(instance, weights)
            self.check(instance, weights, certificate, True)
            other = best_certificate(instance, others)
            once = spoiled(rng, certificate)
            mixed = tuple(rng.choice(pair) for pair in zip(certificate, other))
            first = first_vector(instance)
            swapped = (vector_value(weights, first), first, certificate[2])
            priced = replaced(certificate, (2,), some_prices(rng, instance))
            for value in (once, spoiled(rng, once), other, mixed, swapped, priced):
                answers.append(expected_holds(instance, weights, value))
                self.check(instance, weights, value, answers[-1])
        self.assertGreater(answers.count(True), 200)
        self.assertGreater(answers.count(False), 500)


class Arguments(unittest.TestCase):
    def test_they_do_not_change(self):
        rng = generator(111)
        for instance in many_crowded(rng, 100):
            weights = some_weights(rng, instance)
            prices = spoiled(rng, some_prices(rng, instance))
            value = spoiled(rng, spoiled(rng, (3, tuple(weights), prices)))
            told = (instance, weights, prices, value)
            before = copy.deepcopy(told)
            best_holds(instance, weights, value)
            vector_value(weights, weights)
            for call in (lambda: price_bound(instance, weights, prices), lambda: best_certificate(instance, weights)):
                try:
                    call()
                except (BadPrices, NoUnbeaten):
                    pass
            self.assertEqual(repr(told), repr(before))
