import copy
import unittest

from postvote.assignments import empty_assignment
from postvote.changes import change_result, change_surplus, is_change, stay_change
from postvote.errors import NoUnbeaten
from postvote.margins import margin
from postvote.reaching import best_change, best_change_holds
from postvote.unbeaten import find_verdict, shortfall
from postvote.vectors import assignment_of, first_vector, last_vector
from tests.reference import both_conditions, greatest_shortfall, reserve, tried_vectors, tuple_count
from tests.support import (
    BIG, ODD_VALUES, crowded_instance, generator, many_crowded, part_at, paths, plain, replaced, small_assignments,
    small_changes, small_instance, some_assignment, some_change, spoiled,
)

I = ((1, 1), (((0, 1), 2),))
J = ((1, 1), (((0, 1), 3),))
K = ((1, 2, 1), (((0, 1), 2), ((0, 2), 2)))


def good_changes(instance, assignment):
    """All changes to unbeaten assignments with their surplus, found by trying all changes."""
    return {
        change: surplus
        for change, surplus in small_changes(instance, assignment).items()
        if both_conditions(instance, change_result(instance, assignment, change))
    }


def way_surplus(posts, goal, share, number):
    """The greatest surplus of a group of which number applicants go to option goal, and the others to option 0."""
    losses = []
    total = 0
    for start, many in enumerate(share):
        to_first = int(start > 0)
        to_goal = (start > goal) - (start < goal)
        total += many * to_first
        losses.append((to_first - to_goal, many))
    # Those who lose the fewest votes go to the reserve option.
    for loss, many in sorted(losses):
        moved = min(many, number)
        total -= moved * loss
        number -= moved
    return total


def best_over_vectors(instance, assignment, vectors):
    """The greatest surplus of a change to an unbeaten assignment, found by trying all vectors."""
    found = []
    for vector in vectors:
        total = 0
        for (posts, count), share, number in zip(instance[1], assignment, vector):
            total += way_surplus(posts, reserve(instance, posts) if posts else 0, share, number)
        found.append(total)
    return max(found)


def scaled(value, factor):
    if isinstance(value, tuple):
        return tuple(scaled(part, factor) for part in value)
    return value * factor


class ReachingCase(unittest.TestCase):
    def check(self, instance, assignment, surplus):
        """best_change finds a right change with this surplus."""
        told = (instance, assignment)
        found = best_change(instance, assignment)
        self.assertEqual((type(found), len(found)), (tuple, 2), told)
        self.assertEqual(plain(found[0]), plain(surplus), told)
        self.assertIs(is_change(instance, assignment, found[1]), True, told)
        self.assertEqual(change_surplus(found[1]), surplus, told)
        self.assertIs(both_conditions(instance, change_result(instance, assignment, found[1])), True, told)
        self.assertEqual(plain(best_change(instance, assignment)), plain(found), told)
        self.check_holds(instance, assignment, found, True)
        return found

    def check_none(self, instance, assignment):
        with self.assertRaises(NoUnbeaten) as caught:
            best_change(instance, assignment)
        self.assertIs(type(caught.exception), NoUnbeaten)
        self.assertGreater(shortfall(instance, caught.exception.crowded, caught.exception.reserves), 0)

    def check_holds(self, instance, assignment, value, answer):
        told = (instance, assignment, value)
        self.assertIs(best_change_holds(*told), answer, told)
        self.assertIs(best_change_holds(*told), answer, told)


class BestChange(ReachingCase):
    def test_example(self):
        self.assertEqual(best_change(I, ((0, 0, 2),)), (2, (((0, 0, 0), (0, 0, 0), (1, 1, 0)),)))

    def test_small_instances(self):
        rng = generator(120)
        found = {}
        for turn in range(500):
            instance = small_instance(rng)
            assignment = some_assignment(rng, instance)
            changes = good_changes(instance, assignment)
            if changes:
                best = max(changes.values())
                self.assertGreaterEqual(best, 0)
                self.check(instance, assignment, best)
                found[best] = found.get(best, 0) + 1
            else:
                self.check_none(instance, assignment)
                found[None] = found.get(None, 0) + 1
        for number in (None, 0, 1, 2, 3, 4):
            self.assertGreater(found[number], 5)

    def test_every_assignment_of_small_instances(self):
        rng = generator(121)
        for turn in range(60):
            instance = small_instance(rng, 4)
            for assignment in sorted(small_assignments(instance)):
                changes = good_changes(instance, assignment)
                if changes:
                    self.check(instance, assignment, max(changes.values()))
                else:
                    self.check_none(instance, assignment)

    def test_against_all_vectors(self):
        rng = generator(122)
        tried = {True: 0, False: 0}
        while sum(tried.values()) < 250:
            instance = crowded_instance(rng, rng.choice((2, 3, 6)))
            if tuple_count(instance) > 1500:
                continue
            vectors = tried_vectors(instance)
            tried[len(vectors) > 0] += 1
            for assignment in (some_assignment(rng, instance), empty_assignment(instance)):
                if vectors:
                    self.check(instance, assignment, best_over_vectors(instance, assignment, vectors))
                else:
                    self.check_none(instance, assignment)
        self.assertGreater(tried[True], 150)
        self.assertGreater(tried[False], 5)

    def test_great_numbers_that_are_multiples(self):
        rng = generator(123)
        tried = 0
        while tried < 120:
            instance = crowded_instance(rng, 3)
            if tuple_count(instance) > 800:
                continue
            tried += 1
            vectors = tried_vectors(instance)
            assignment = some_assignment(rng, instance)
            factor = BIG // 30
            larger = (
                scaled(instance[0], factor), tuple((posts, count * factor) for posts, count in instance[1]),
            )
            if vectors:
                best = best_over_vectors(instance, assignment, vectors)
                self.check(larger, scaled(assignment, factor), best * factor)
            else:
                self.check_none(larger, scaled(assignment, factor))

    def test_large_instances(self):
        rng = generator(124)
        tried = {True: 0, False: 0}
        for instance in many_crowded(rng, 300):
            assignment = some_assignment(rng, instance)
            good = greatest_shortfall(instance) <= 0
            tried[good] += 1
            if not good:
                self.check_none(instance, assignment)
                continue
            best = best_change(instance, assignment)[0]
            self.check(instance, assignment, best)
            self.assertGreaterEqual(best, 0)
            self.assertLessEqual(best, margin(instance, assignment))
            for vector in (first_vector(instance), last_vector(instance)):
                change = some_change(rng, assignment, assignment_of(instance, vector))
                self.assertLessEqual(change_surplus(change), best)
                self.assertLessEqual(best_over_vectors(instance, assignment, [vector]), best)
        self.assertGreater(min(tried.values()), 30)

    def test_from_an_unbeaten_assignment(self):
        rng = generator(125)
        for instance in many_crowded(rng, 200):
            verdict = find_verdict(instance)
            if verdict[0] == "unbeaten":
                self.check(instance, verdict[1], 0)
                self.check_holds(instance, verdict[1], (0, stay_change(verdict[1])), True)

    def test_by_hand(self):
        self.check(K, ((0, 0, 2), (1, 0, 1)), 3)
        self.check(K, ((0, 1, 1), (1, 1, 0)), 1)
        self.check(((1,), (((), 5), ((0,), 2))), ((5,), (0, 2)), 1)
        self.check(((1,), (((), BIG),)), ((BIG,),), 0)
        # All at the reserve option already, and post 0 empty.
        self.check(((BIG, BIG), (((0, 1), BIG), ((0, 1), BIG))), ((0, BIG, 0), (0, 0, BIG)), 2 * BIG)

    def test_an_option_between_option_0_and_the_reserve_option(self):
        instance = ((1, 2, 2), (((0, 1, 2), 2), ((1,), 2)))
        self.check(instance, ((0, 2, 0, 0), (0, 2)), 2)


class BestChangeHolds(ReachingCase):
    def test_example(self):
        self.check_holds(I, ((1, 1, 0),), (0, (((1, 0, 0), (0, 1, 0), (0, 0, 0)),)), True)

    def test_all_changes_of_small_instances(self):
        rng = generator(126)
        several = 0
        for turn in range(120):
            instance = small_instance(rng, 4)
            assignment = some_assignment(rng, instance)
            good = good_changes(instance, assignment)
            best = max(good.values(), default=None)
            right = 0
            for change, surplus in small_changes(instance, assignment).items():
                answer = change in good and surplus == best
                right += answer
                self.check_holds(instance, assignment, (surplus, change), answer)
                if best is not None and surplus != best:
                    self.check_holds(instance, assignment, (best, change), False)
            self.assertEqual(right > 0, best is not None)
            several += right > 1
        self.assertGreater(several, 10)

    def test_a_smaller_surplus_than_the_greatest(self):
        # Both applicants of the first two groups are one place from post 0, and one of them may go there.
        instance = ((1, 2, 2), (((0, 1), 1), ((0, 2), 1)))
        assignment = ((0, 1, 0), (0, 0, 1))
        better = (((0, 0, 0), (0, 1, 0), (0, 0, 0)), ((0, 0, 0), (0, 0, 0), (1, 0, 0)))
        other = (((0, 0, 0), (1, 0, 0), (0, 0, 0)), ((0, 0, 0), (0, 0, 0), (0, 1, 0)))
        self.assertEqual([change_surplus(better), change_surplus(other)], [1, 2])
        self.check_holds(instance, assignment, (1, better), False)
        self.check_holds(instance, assignment, (2, other), True)

    def test_every_value_is_wrong_without_an_unbeaten_assignment(self):
        for assignment in sorted(small_assignments(J)):
            for change, surplus in small_changes(J, assignment).items():
                self.check_holds(J, assignment, (surplus, change), False)
            for value in ODD_VALUES:
                self.check_holds(J, assignment, value, False)
                self.check_holds(J, assignment, (0, value), False)

    def test_other_numbers(self):
        assignment = ((0, 0, 2),)
        change = best_change(I, assignment)[1]
        for number in (-2, 0, 1, 3, True, None, "2", (2,), [2], 2.0):
            self.check_holds(I, assignment, (number, change), False)
        self.check_holds(I, ((1, 1, 0),), (False, stay_change(((1, 1, 0),))), False)
        one = ((1, 0, 1),)
        found = best_change(I, one)
        self.assertEqual(found[0], 1)
        self.check_holds(I, one, (True, found[1]), False)

    def test_other_shapes(self):
        found = best_change(K, ((0, 0, 2), (1, 0, 1)))
        for value in (list(found), found[:1], found[1:], found + found[:1], (), (found,), found[::-1], (found[0], found)):
            self.check_holds(K, ((0, 0, 2), (1, 0, 1)), value, False)

    def expected(self, instance, assignment, value):
        if type(value) is not tuple or len(value) != 2 or type(value[0]) is not int:
            return False
        if not is_change(instance, assignment, value[1]) or change_surplus(value[1]) != value[0]:
            return False
        if not both_conditions(instance, change_result(instance, assignment, value[1])):
            return False
        return value[0] == best_change(instance, assignment)[0]

    def test_odd_values_in_every_place(self):
        assignment = ((0, 0, 2), (1, 0, 1))
        found = best_change(K, assignment)
        for path in paths(found):
            part = part_at(found, path)
            others = list(ODD_VALUES)
            if isinstance(part, tuple):
                others += [list(part), part[:-1], part + part[-1:], part + (0,), part[::-1]]
            for other in others:
                changed = replaced(found, path, other)
                self.check_holds(K, assignment, changed, self.expected(K, assignment, changed))
            if part in (0, 1):
                self.check_holds(K, assignment, replaced(found, path, bool(part)), False)

    def test_many_spoiled_ones(self):
        rng = generator(127)
        answers = []
        for instance in many_crowded(rng, 300):
            if greatest_shortfall(instance) > 0:
                continue
            assignment = some_assignment(rng, instance)
            found = best_change(instance, assignment)
            once = spoiled(rng, found)
            wild = some_change(rng, assignment, change_result(instance, assignment, found[1]))
            target = some_change(rng, assignment, assignment_of(instance, last_vector(instance)))
            other = best_change(instance, some_assignment(rng, instance))
            pairs = [(change_surplus(change), change) for change in (wild, target)]
            for value in (once, spoiled(rng, once), *pairs, other, (found[0], wild)):
                answers.append(self.expected(instance, assignment, value))
                self.check_holds(instance, assignment, value, answers[-1])
        self.assertGreater(answers.count(True), 100)
        self.assertGreater(answers.count(False), 300)


class Arguments(unittest.TestCase):
    def test_they_do_not_change(self):
        rng = generator(128)
        for instance in many_crowded(rng, 100):
            assignment = some_assignment(rng, instance)
            value = spoiled(rng, spoiled(rng, (0, stay_change(assignment))))
            told = (instance, assignment, value)
            before = copy.deepcopy(told)
            best_change_holds(instance, assignment, value)
            try:
                best_change(instance, assignment)
            except NoUnbeaten:
                pass
            self.assertEqual(repr(told), repr(before))
