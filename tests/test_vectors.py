import copy
import unittest

from postvote.assignments import is_assignment
from postvote.errors import BadVector, Beaten, NoGroup, NoUnbeaten, TooMany
from postvote.transforms import scale_instance
from postvote.unbeaten import find_verdict, shortfall
from postvote.vectors import (
    all_vectors, assignment_of, first_vector, is_vector, last_vector, next_vector, reserve_range, vector_of,
)
from postvote.weights import best_certificate
from tests.reference import (
    both_conditions, greatest_shortfall, right_vector, sorted_out, tried_vectors, tuple_count, wishes,
)
from tests.support import (
    BIG, ODD_VALUES, crowded_instance, generator, many_crowded, plain, replaced, small_assignments, small_instance,
    some_assignment, spoiled,
)

A = ((1, 2, 2), (((0, 1), 2), ((0, 2), 2)))
I = ((1, 1), (((0, 1), 2),))
J = ((1, 1), (((0, 1), 3),))
K = ((1, 2, 1), (((0, 1), 2), ((0, 2), 2)))
# Group 1 does not rank a crowded post first, and group 3 has no list.
MIXED = ((2, 5, 3), (((0, 1), 3), ((1, 0), 2), ((0, 2), 2), ((), 4), ((0,), 1)))
# Every number of applicants of the first two groups from 0 to BIG - 1 can move.
VAST = ((BIG, BIG, BIG), (((0, 1), BIG), ((0, 2), BIG), ((1,), 1)))


def tried_instances(seed, turns, most=3, tuples=2500):
    """Crowded instances for which all tuples can be tried."""
    rng = generator(seed)
    found = []
    while len(found) < turns:
        instance = crowded_instance(rng, most)
        if tuple_count(instance) <= tuples:
            found.append(instance)
    return found


class VectorCase(unittest.TestCase):
    def check_no_unbeaten(self, call, *told, **more):
        with self.assertRaises(NoUnbeaten) as caught:
            call(*told, **more)
        error = caught.exception
        self.assertIs(type(error), NoUnbeaten)
        self.assertGreater(shortfall(told[0], error.crowded, error.reserves), 0)

    def check_raises(self, kind, call, *told, **more):
        with self.assertRaises(kind) as caught:
            call(*told, **more)
        self.assertIs(type(caught.exception), kind)
        return caught.exception


class IsVector(unittest.TestCase):
    def check(self, instance, value, answer):
        self.assertIs(is_vector(instance, value), answer, (instance, value))
        self.assertIs(is_vector(instance, value), answer, (instance, value))

    def test_example(self):
        self.assertEqual([is_vector(K, (2, 1)), is_vector(K, (1, 2))], [True, False])

    def test_all_tuples_of_small_instances(self):
        for instance in tried_instances(80, 60, 3, 400):
            groups = instance[1]
            size = len(groups)
            right = set(tried_vectors(instance))
            for numbers in range(tuple_count(instance)):
                value = []
                for posts, count in groups:
                    value.append(numbers % (count + 1))
                    numbers //= count + 1
                self.assertIs(is_vector(instance, tuple(value)), tuple(value) in right)
            for vector in sorted(right)[:20]:
                self.check(instance, vector, True)
                for at in range(size):
                    for other in (vector[at] - 1, vector[at] + 1, -vector[at], groups[at][1] + 1):
                        changed = replaced(vector, (at,), other)
                        self.check(instance, changed, changed in right)
                    self.check(instance, vector[:at] + vector[at + 1:], False)
                    self.check(instance, vector[:at] + vector[at:at + 1] + vector[at:], False)
                for other in (vector[::-1], vector[1:] + vector[:1], tuple(sorted(vector))):
                    self.check(instance, other, other in right)

    def test_each_condition_by_itself(self):
        self.check(MIXED, (3, 0, 1, 0, 0), True)
        self.check(MIXED, (1, 0, 2, 0, 1), True)
        # Below 0, above the count, a group without a crowded post, a sum above and below the excess.
        for value in ((3, 0, 2, 0, -1), (4, 0, 0, 0, 0), (3, 1, 1, 0, 0), (3, 0, 1, 1, 0), (3, 0, 2, 0, 0)):
            self.check(MIXED, value, False)
        for value in ((2, 0, 1, 0, 0), (2, 1, 1, 0, 0), (0, 0, 0, 0, 0)):
            self.check(MIXED, value, False)
        # One more than the free places: post 1 has three of them.
        tight = ((2, 4, 3), MIXED[1])
        self.check(tight, (2, 0, 2, 0, 0), True)
        self.check(tight, (3, 0, 1, 0, 0), False)

    def test_two_groups_for_the_same_places(self):
        instance = ((1, 1, 3), (((0, 2), 2), ((1, 2), 3), ((0, 1), 1)))
        self.check(instance, (1, 2, 1), True)
        self.check(instance, (2, 2, 0), False)

    def test_great_numbers(self):
        self.check(VAST, (BIG - 1, 1, 0), True)
        self.check(VAST, (0, BIG, 0), True)
        self.check(VAST, (BIG, 0, 0), False)
        self.check(VAST, (1, BIG, 0), False)
        self.check(VAST, (0, BIG - 1, 0), False)

    def test_bools_and_lists(self):
        for value in ((True, 2), [1, 2], (1, [2]), ((1, 2),), [[1, 2]], (1.0, 2), ("1", "2"), {"0": 1, "1": 2}):
            self.check(A, value, False)
        self.check(A, (1, 2), True)
        self.check(A, (2, True), False)
        nobody = ((2,), (((0,), 1), ((), 1)))
        self.check(nobody, (0, 0), True)
        self.check(nobody, (False, 0), False)
        self.check(nobody, (0, False), False)
        self.check(nobody, [0, 0], False)

    def test_odd_values(self):
        for instance in (A, I, J, K, MIXED, VAST, ((1,), (((0,), 2),))):
            for value in ODD_VALUES:
                self.check(instance, value, right_vector(instance, value))
                self.check(instance, (value,) * len(instance[1]), right_vector(instance, (value,) * len(instance[1])))

    def test_no_tuple_is_a_vector_of_a_shortage(self):
        for number in range(-1, 5):
            self.check(J, (number,), False)

    def test_many_spoiled_ones(self):
        rng = generator(81)
        answers = []
        for instance in many_crowded(rng, 800):
            if find_verdict(instance)[0] == "shortage":
                continue
            weights = tuple(rng.randint(-9, 9) for group in instance[1])
            for vector in (first_vector(instance), best_certificate(instance, weights)[1]):
                self.check(instance, vector, True)
                one, two = rng.choices(range(len(vector)), k=2)
                moved = replaced(vector, (one,), vector[one] - 1)
                moved = replaced(moved, (two,), moved[two] + 1)
                for value in (spoiled(rng, vector), moved):
                    answers.append(right_vector(instance, value))
                    self.check(instance, value, answers[-1])
        self.assertGreater(answers.count(True), 100)
        self.assertGreater(answers.count(False), 300)


class VectorsAndAssignments(VectorCase):
    def check_pair(self, instance, vector):
        """The vector and its assignment lead to each other, and the assignment is what DOC.md says."""
        assignment = assignment_of(instance, vector)
        self.assertIs(is_assignment(instance, assignment), True, (instance, vector))
        self.assertIs(both_conditions(instance, assignment), True, (instance, vector))
        self.assertEqual(plain(vector_of(instance, assignment)), plain(vector))
        self.assertEqual(plain(assignment_of(instance, vector)), plain(assignment))
        crowded = sorted_out(instance)[0]
        for (posts, count), share, number in zip(instance[1], assignment, vector):
            self.assertEqual(number, count - share[0] if posts and posts[0] in crowded else 0)
        return assignment

    def test_examples(self):
        self.assertEqual(vector_of(I, ((1, 1, 0),)), (1,))
        self.assertEqual(assignment_of(K, (2, 1)), ((0, 2, 0), (1, 1, 0)))

    def test_by_hand(self):
        self.assertEqual(assignment_of(MIXED, (1, 0, 2, 0, 1)), ((2, 1, 0), (2, 0, 0), (0, 2, 0), (4,), (0, 1)))
        self.assertEqual(vector_of(MIXED, ((2, 1, 0), (2, 0, 0), (0, 2, 0), (4,), (0, 1))), (1, 0, 2, 0, 1))
        far = ((1, 1, 5), (((0, 1, 2), 2), ((1,), 1)))
        self.assertEqual(assignment_of(far, (1, 0)), ((1, 0, 1, 0), (1, 0)))
        self.assertEqual(vector_of(far, ((1, 0, 1, 0), (1, 0))), (1, 0))

    def test_all_vectors_of_small_instances(self):
        for instance in tried_instances(82, 200):
            found = [self.check_pair(instance, vector) for vector in tried_vectors(instance)]
            self.assertEqual(len(set(found)), len(found))

    def test_all_assignments_of_small_instances(self):
        rng = generator(83)
        found = {True: 0, False: 0}
        for turn in range(200):
            instance = small_instance(rng)
            vectors = []
            for assignment in sorted(small_assignments(instance)):
                good = both_conditions(instance, assignment)
                found[good] += 1
                if good:
                    vectors.append(vector_of(instance, assignment))
                    self.assertEqual(plain(assignment_of(instance, vectors[-1])), plain(assignment))
                else:
                    self.check_raises(Beaten, vector_of, instance, assignment)
            self.assertEqual(sorted(vectors), tried_vectors(instance))
        self.assertGreater(found[True], 150)
        self.assertGreater(found[False], 1000)

    def test_large_instances(self):
        rng = generator(84)
        pairs = 0
        for instance in many_crowded(rng, 400):
            verdict = find_verdict(instance)
            if verdict[0] == "unbeaten":
                self.check_pair(instance, vector_of(instance, verdict[1]))
                for vector in (first_vector(instance), last_vector(instance)):
                    self.check_pair(instance, vector)
                    pairs += 1
            for assignment in (some_assignment(rng, instance), verdict[1]):
                if verdict[0] == "unbeaten" and not both_conditions(instance, assignment):
                    self.check_raises(Beaten, vector_of, instance, assignment)
        self.assertGreater(pairs, 300)

    def test_beaten_without_any_vector(self):
        for assignment in sorted(small_assignments(J)):
            self.check_raises(Beaten, vector_of, J, assignment)

    def test_bad_vectors(self):
        wrong = (
            (1, 1), (2, 2), (3, 0), (0, 3), (-1, 4), (1,), (1, 2, 0), (), [1, 2], (True, 2), (2, True), None, 3, "12",
            ((1, 2),), (None, 2), {"a": 1},
        )
        for value in wrong:
            self.check_raises(BadVector, assignment_of, A, value)
            self.check_raises(BadVector, next_vector, A, value)
        for value in (*ODD_VALUES, (0,), (1,), (2,), (3,)):
            self.check_raises(BadVector, assignment_of, J, value)
            self.check_raises(BadVector, next_vector, J, value)

    def test_many_bad_vectors(self):
        rng = generator(85)
        bad = 0
        for instance in many_crowded(rng, 600):
            if find_verdict(instance)[0] == "shortage":
                continue
            value = spoiled(rng, last_vector(instance))
            if right_vector(instance, value):
                self.check_pair(instance, value)
            else:
                bad += 1
                self.check_raises(BadVector, assignment_of, instance, value)
                self.check_raises(BadVector, next_vector, instance, value)
        self.assertGreater(bad, 200)


class Order(VectorCase):
    def check_all(self, instance, vectors):
        """All functions that look through the vectors agree with this ascending list."""
        self.assertEqual(plain(first_vector(instance)), plain(vectors[0]))
        self.assertEqual(plain(last_vector(instance)), plain(vectors[-1]))
        self.assertEqual(plain(all_vectors(instance)), plain(tuple(vectors)))
        for vector, other in zip(vectors, [*vectors[1:], None]):
            self.assertEqual(plain(next_vector(instance, vector)), plain(other))
        for group, column in enumerate(zip(*vectors)):
            self.assertEqual(plain(reserve_range(instance, group)), plain((min(column), max(column))))
            self.assertEqual(set(column), set(range(min(column), max(column) + 1)))

    def test_examples(self):
        self.assertEqual([first_vector(A), last_vector(A)], [(1, 2), (2, 1)])
        self.assertEqual(next_vector(A, (1, 2)), (2, 1))
        self.assertEqual(all_vectors(A), ((1, 2), (2, 1)))
        self.assertEqual(reserve_range(A, 0), (1, 2))

    def test_small_instances(self):
        sizes = {}
        for instance in tried_instances(86, 400):
            vectors = tried_vectors(instance)
            if vectors:
                self.check_all(instance, vectors)
            else:
                for call in (first_vector, last_vector, all_vectors):
                    self.check_no_unbeaten(call, instance)
            size = min(len(vectors), 2)
            sizes[size] = sizes.get(size, 0) + 1
        self.assertGreater(sizes[0], 20)
        self.assertGreater(sizes[1], 30)
        self.assertGreater(sizes[2], 200)

    def test_instances_of_few_applicants(self):
        rng = generator(87)
        for turn in range(300):
            instance = small_instance(rng)
            vectors = tried_vectors(instance)
            if vectors:
                self.check_all(instance, vectors)
            else:
                self.check_no_unbeaten(first_vector, instance)

    def test_the_only_vector(self):
        for instance in (((1,), (((), BIG),)), ((5, 1), (((0, 1), 5), ((1,), 1), ((), 1)))):
            self.check_all(instance, [(0,) * len(instance[1])])
        self.check_all(I, [(1,)])
        self.check_all(((1, BIG), (((0, 1), BIG),)), [(BIG - 1,)])

    def test_scaled_instances(self):
        for instance in tried_instances(88, 150):
            vectors = tried_vectors(instance)
            greatest = max(*instance[0], *[count for posts, count in instance[1]])
            for factor in (2, BIG // greatest):
                larger = scale_instance(instance, factor)
                if not vectors:
                    self.check_no_unbeaten(first_vector, larger)
                    self.check_no_unbeaten(reserve_range, larger, 0)
                    continue
                self.assertEqual(first_vector(larger), tuple(number * factor for number in vectors[0]))
                self.assertEqual(last_vector(larger), tuple(number * factor for number in vectors[-1]))
                for group, column in enumerate(zip(*vectors)):
                    self.assertEqual(reserve_range(larger, group), (min(column) * factor, max(column) * factor))

    def test_large_instances_against_certificates(self):
        rng = generator(89)
        several = 0
        for instance in many_crowded(rng, 250):
            if greatest_shortfall(instance) > 0:
                self.check_no_unbeaten(first_vector, instance)
                self.check_no_unbeaten(last_vector, instance)
                self.check_no_unbeaten(all_vectors, instance)
                self.check_no_unbeaten(reserve_range, instance, len(instance[1]) - 1)
                continue
            first, last = first_vector(instance), last_vector(instance)
            self.assertIs(right_vector(instance, first) and right_vector(instance, last), True)
            several += first != last
            for group in range(len(first)):
                # The certificates are found in another way, and their prices show that they are right.
                weights = [0] * len(first)
                weights[group] = 1
                most = best_certificate(instance, tuple(weights))
                weights[group] = -1
                least = best_certificate(instance, tuple(weights))
                self.assertEqual(reserve_range(instance, group), (-least[0], most[0]))
                for vector in (most[1], least[1]):
                    self.assertLessEqual(first, vector)
                    self.assertLessEqual(vector, last)
            self.assertEqual(reserve_range(instance, 0), (first[0], last[0]))
        self.assertGreater(several, 100)

    def test_steps_of_large_instances(self):
        rng = generator(90)
        steps = 0
        for turn in range(150):
            instance = crowded_instance(rng, rng.choice((30, BIG)))
            if greatest_shortfall(instance) > 0:
                continue
            weights = tuple(rng.randint(-9, 9) for group in instance[1])
            vector = rng.choice((first_vector(instance), best_certificate(instance, weights)[1]))
            for step in range(5):
                further = next_vector(instance, vector)
                if further is None:
                    self.assertEqual(vector, last_vector(instance))
                    break
                self.check_step(instance, vector, further)
                vector = further
                steps += 1
        self.assertGreater(steps, 200)

    def check_step(self, instance, vector, further):
        """further is a vector with one more at the turn, and no swap of two behind it makes it smaller."""
        self.assertIs(right_vector(instance, further), True)
        turn = [one < two for one, two in zip(vector, further)].index(True)
        self.assertEqual(further[:turn], vector[:turn])
        self.assertEqual(further[turn], vector[turn] + 1)
        for at in range(turn + 1, len(vector)):
            less = replaced(further, (at,), further[at] - 1)
            for other in range(at + 1, len(vector)):
                swapped = replaced(less, (other,), less[other] + 1)
                self.assertIs(right_vector(instance, swapped), False)

    def test_one_crowded_post_with_room_elsewhere(self):
        # The vectors are all ways to divide the excess, so the next one is known.
        rng = generator(91)
        for turn in range(200):
            counts = [rng.choice((1, 2, rng.randint(1, BIG // 10))) for at in range(rng.randint(1, 10))]
            capacity = rng.randint(1, sum(counts))
            instance = ((capacity, BIG), tuple((rng.choice(((0,), (0, 1))), count) for count in counts))
            if sum(count for posts, count in instance[1]) == capacity:
                continue
            vector = first_vector(instance)
            self.assertEqual(vector, tuple(divided(counts, sum(counts) - capacity)))
            self.assertEqual(last_vector(instance)[::-1], tuple(divided(counts[::-1], sum(counts) - capacity)))
            for step in range(4):
                expected = next_division(counts, vector)
                self.assertEqual(next_vector(instance, vector), expected)
                if expected is None:
                    break
                vector = expected

    def test_vast_ranges(self):
        self.assertEqual(first_vector(VAST), (0, BIG, 0))
        self.assertEqual(last_vector(VAST), (BIG - 1, 1, 0))
        self.assertEqual(next_vector(VAST, (0, BIG, 0)), (1, BIG - 1, 0))
        self.assertEqual(next_vector(VAST, (BIG - 2, 2, 0)), (BIG - 1, 1, 0))
        self.assertIs(next_vector(VAST, (BIG - 1, 1, 0)), None)
        self.assertEqual([reserve_range(VAST, group) for group in range(3)], [(0, BIG - 1), (1, BIG), (0, 0)])
        for limit in (1, 5, 1999, 2000):
            self.assertEqual(self.check_raises(TooMany, all_vectors, VAST, limit=limit).limit, limit)

    def test_the_greatest_size(self):
        groups = tuple(((at % 3, 3 + at % 2, 5), BIG) for at in range(10))
        instance = ((BIG, BIG, BIG, BIG, BIG, BIG), groups)
        self.assertEqual(wishes(instance), [4 * BIG, 3 * BIG, 3 * BIG, 0, 0, 0])
        self.check_no_unbeaten(first_vector, instance)
        groups = tuple(((at % 3, 3 + at % 3), BIG // 5) for at in range(10))
        instance = ((BIG // 2,) * 3 + (BIG,) * 3, groups)
        self.assertEqual(self.check_raises(TooMany, all_vectors, instance).limit, 2000)
        first = first_vector(instance)
        self.assertIs(right_vector(instance, first), True)
        self.assertLess(first, next_vector(instance, first))


def divided(counts, total):
    """The smallest way to divide total: later groups take as much as they can."""
    found = []
    for count in counts[::-1]:
        found.append(min(count, total))
        total -= found[-1]
    return found[::-1]


def next_division(counts, vector):
    for at in range(len(counts) - 1, -1, -1):
        if vector[at] < counts[at] and sum(vector[at + 1:]) > 0:
            rest = divided(counts[at + 1:], sum(vector[at + 1:]) - 1)
            return (*vector[:at], vector[at] + 1, *rest)
    return None


class Limits(VectorCase):
    def test_at_the_number_of_vectors_and_below(self):
        tried = 0
        for instance in tried_instances(92, 150):
            vectors = tried_vectors(instance)
            size = len(vectors)
            if size == 0:
                continue
            for limit in {size, size + 1, 2000}:
                self.assertEqual(all_vectors(instance, limit=limit), tuple(vectors))
            for limit in {1, size // 2, size - 1} - {0, size}:
                tried += 1
                self.assertEqual(self.check_raises(TooMany, all_vectors, instance, limit=limit).limit, limit)
        self.assertGreater(tried, 100)

    def test_two_thousand(self):
        for more in (-1, 0, 1):
            # One group takes from 0 to 1999 + more, the other the rest.
            size = 1999 + more
            instance = ((size, BIG), (((0, 1), size), ((0,), size)))
            if more > 0:
                self.assertEqual(self.check_raises(TooMany, all_vectors, instance).limit, 2000)
            else:
                expected = tuple((number, size - number) for number in range(size + 1))
                self.assertEqual(all_vectors(instance), expected)
                self.assertEqual(all_vectors(instance, limit=2000), expected)
                self.check_raises(TooMany, all_vectors, instance, limit=size)

    def test_many_vectors_only_at_the_end(self):
        instance = ((BIG, BIG, BIG), (((1,), 5), ((), 7), ((0, 1), 1), ((0, 2), BIG), ((0,), BIG)))
        self.check_raises(TooMany, all_vectors, instance)
        self.check_raises(TooMany, all_vectors, instance, limit=1)

    def test_a_shortage_comes_first(self):
        for limit in (1, 2, 2000):
            self.check_no_unbeaten(all_vectors, J, limit=limit)
        rng = generator(93)
        found = 0
        for instance in many_crowded(rng, 300):
            if greatest_shortfall(instance) > 0:
                found += 1
                self.check_no_unbeaten(all_vectors, instance, limit=1)
        self.assertGreater(found, 40)

    def test_limit_by_keyword_only(self):
        with self.assertRaises(TypeError):
            all_vectors(A, 5)


class ReserveRange(VectorCase):
    def test_no_group(self):
        rng = generator(94)
        for instance in (A, J, MIXED, VAST, *many_crowded(rng, 30)):
            size = len(instance[1])
            for value in (*ODD_VALUES, -1, size, size + 1, -size, str(size - 1), (0,), [0], 0.0):
                if type(value) is int and 0 <= value < size:
                    continue
                error = self.check_raises(NoGroup, reserve_range, instance, value)
                self.assertIs(error.value, value)

    def test_every_group(self):
        self.assertEqual(
            [reserve_range(MIXED, group) for group in range(5)], [(1, 3), (0, 0), (0, 2), (0, 0), (0, 1)]
        )
        tight = ((2, 4, 4), MIXED[1])
        self.assertEqual([reserve_range(tight, group) for group in range(5)], [(1, 2), (0, 0), (1, 2), (0, 0), (0, 1)])

    def test_a_shortage(self):
        self.check_no_unbeaten(reserve_range, J, 0)
        for value in (1, True, None):
            self.check_raises(NoGroup, reserve_range, J, value)


class Arguments(unittest.TestCase):
    def test_they_do_not_change(self):
        rng = generator(95)
        for instance in many_crowded(rng, 100):
            verdict = find_verdict(instance)
            assignment = verdict[1] if verdict[0] == "unbeaten" else some_assignment(rng, instance)
            value = spoiled(rng, spoiled(rng, tuple(count for posts, count in instance[1])))
            told = (instance, assignment, value)
            before = copy.deepcopy(told)
            is_vector(instance, value)
            calls = (
                lambda: vector_of(instance, assignment), lambda: assignment_of(instance, value),
                lambda: next_vector(instance, value), lambda: all_vectors(instance, limit=20),
                lambda: first_vector(instance), lambda: last_vector(instance), lambda: reserve_range(instance, value),
                lambda: reserve_range(instance, 0),
            )
            for call in calls:
                try:
                    call()
                except (Beaten, BadVector, NoUnbeaten, NoGroup, TooMany):
                    pass
            self.assertEqual(repr(told), repr(before))
