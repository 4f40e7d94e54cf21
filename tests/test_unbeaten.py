import copy
import unittest

from postvote.assignments import is_assignment
from postvote.errors import BadPosts
from postvote.margins import margin
from postvote.unbeaten import find_verdict, is_unbeaten, shortfall, verdict_holds
from tests.reference import (
    all_pairs, both_conditions, counted_shortfall, greatest_shortfall, sorted_out, subsets,
)
from tests.support import (
    BIG, ODD_VALUES, generator, many_instances, near_instance, part_at, paths, plain, replaced, small_assignments,
    small_changes, small_instance, some_assignment, some_instance, spoiled,
)

I = ((1, 1), (((0, 1), 2),))
J = ((1, 1), (((0, 1), 3),))
K = ((1, 2, 1), (((0, 1), 2), ((0, 2), 2)))
# Posts 0 and 1 are crowded, 2 is claimed but not crowded, 3, 4 and 5 are not claimed.
WIDE = (
    (2, 3, 4, 5, 6, 7),
    (((0, 2, 3), 3), ((0, 1, 4), 2), ((1, 0, 3), 4), ((1,), 1), ((2, 5), 4), ((5, 0), 1), ((), 9)),
)


def expected_holds(instance, value):
    """Whether value is a right verdict, read off DOC.md; assignments are tested in test_assignments."""
    if type(value) is not tuple or len(value) not in (2, 3) or type(value[0]) is not str:
        return False
    if value[0] == "unbeaten" and len(value) == 2:
        return is_assignment(instance, value[1]) and both_conditions(instance, value[1])
    if value[0] == "shortage" and len(value) == 3:
        right = [plain(pair) for pair in all_pairs(instance) if counted_shortfall(instance, *pair) > 0]
        return plain(value[1:]) in right
    return False


def balanced_instance(rng, most):
    """An instance in which the places for reserves are just enough, one more, or one too few."""
    instance = rng.choice((some_instance, near_instance))(rng, most)
    missing = greatest_shortfall(instance)
    if missing > 0:
        pair = max(all_pairs(instance), key=lambda pair: counted_shortfall(instance, *pair))
        post = rng.choice(pair[0] + pair[1])
        capacity = instance[0][post] + missing + rng.choice((-1, 0, 1))
        if 1 <= capacity <= BIG:
            instance = replaced(instance, (0, post), capacity)
    return instance


class IsUnbeaten(unittest.TestCase):
    def check(self, instance, assignment, answer):
        self.assertIs(is_unbeaten(instance, assignment), answer, (instance, assignment))
        self.assertIs(is_unbeaten(instance, assignment), answer, (instance, assignment))

    def test_example(self):
        self.assertEqual([is_unbeaten(I, ((1, 1, 0),)), is_unbeaten(I, ((1, 0, 1),))], [True, False])

    def test_small_instances_against_all_changes(self):
        rng = generator(50)
        answers = []
        for turn in range(120):
            instance = small_instance(rng, 4)
            for assignment in sorted(small_assignments(instance)):
                answer = max(small_changes(instance, assignment).values()) == 0
                self.assertIs(both_conditions(instance, assignment), answer)
                self.check(instance, assignment, answer)
                answers.append(answer)
        self.assertGreater(answers.count(True), 100)
        self.assertGreater(answers.count(False), 500)

    def test_large_instances_against_both_conditions_and_the_margin(self):
        rng = generator(51)
        answers = []
        for instance in many_instances(rng, 400):
            assignments = [some_assignment(rng, instance)]
            verdict = find_verdict(instance)
            if verdict[0] == "unbeaten":
                assignments += [verdict[1], one_moved(rng, instance, verdict[1])]
            for assignment in assignments:
                answers.append(both_conditions(instance, assignment))
                self.check(instance, assignment, answers[-1])
                self.assertIs(margin(instance, assignment) == 0, answers[-1])
        self.assertGreater(answers.count(True), 100)
        self.assertGreater(answers.count(False), 300)

    def test_an_option_between_option_0_and_the_reserve_option(self):
        instance = ((1, 2, 2), (((0, 1, 2), 2), ((1,), 2)))
        self.check(instance, ((1, 0, 1, 0), (2, 0)), True)
        self.check(instance, ((1, 1, 0, 0), (1, 1)), False)
        self.check(instance, ((1, 0, 0, 1), (2, 0)), False)

    def test_a_full_post_with_applicants_who_do_not_rank_it_first(self):
        instance = ((2, 1), (((0, 1), 1), ((1, 0), 2)))
        self.check(instance, ((1, 0, 0), (1, 1, 0)), True)
        self.check(instance, ((1, 0, 0), (0, 1, 1)), False)
        self.check(instance, ((0, 1, 0), (0, 2, 0)), False)

    def test_empty_lists(self):
        self.check(((1,), (((), BIG),)), ((BIG,),), True)
        self.check(((1,), (((), BIG), ((0,), 2))), ((BIG,), (1, 1)), True)
        self.check(((1,), (((), BIG), ((0,), 2))), ((BIG,), (0, 2)), False)

    def test_one_applicant_among_very_many(self):
        instance = ((BIG, BIG), (((0, 1), BIG), ((0, 1), BIG)))
        self.check(instance, ((BIG, 0, 0), (0, BIG, 0)), True)
        self.check(instance, ((1, BIG - 1, 0), (BIG - 1, 1, 0)), True)
        self.check(instance, ((BIG, 0, 0), (0, BIG - 1, 1)), False)
        self.check(instance, ((BIG - 1, 1, 0), (0, BIG - 1, 1)), False)


def one_moved(rng, instance, assignment):
    """The assignment with one applicant moved, if that is an assignment."""
    group = rng.randrange(len(assignment))
    start, end = rng.choices(range(len(assignment[group])), k=2)
    moved = replaced(assignment, (group, start), assignment[group][start] - 1)
    moved = replaced(moved, (group, end), moved[group][end] + 1)
    return moved if is_assignment(instance, moved) else assignment


class Shortfall(unittest.TestCase):
    def check_bad(self, instance, crowded, reserves, wrong):
        with self.assertRaises(BadPosts) as caught:
            shortfall(instance, crowded, reserves)
        self.assertIs(type(caught.exception), BadPosts)
        self.assertIs(caught.exception.value, wrong)

    def test_example(self):
        self.assertEqual([shortfall(J, (0,), (1,)), shortfall(J, (0,), ())], [1, -1])

    def test_by_hand(self):
        self.assertEqual(sorted_out(WIDE), ((0, 1), (3, 4, 5)))
        self.assertEqual(shortfall(WIDE, (), ()), 0)
        self.assertEqual(shortfall(WIDE, (0,), ()), 3 - 5)
        self.assertEqual(shortfall(WIDE, (1,), (3,)), 2 - 1 - 5)
        self.assertEqual(shortfall(WIDE, (0, 1), (3, 4)), 5 - 1 - 11)
        self.assertEqual(shortfall(WIDE, (), (3, 4, 5)), -17)

    def test_all_pairs(self):
        rng = generator(52)
        signs = set()
        for instance in many_instances(rng, 300):
            for crowded, reserves in all_pairs(instance):
                number = counted_shortfall(instance, crowded, reserves)
                found = shortfall(instance, crowded, reserves)
                self.assertEqual(plain(found), plain(number), (instance, crowded, reserves))
                self.assertEqual(shortfall(instance, crowded, reserves), number)
                signs.add((number > 0) - (number < 0))
        self.assertEqual(signs, {-1, 0, 1})

    def test_other_posts(self):
        crowded, unclaimed = sorted_out(WIDE)
        for post in range(-1, 8):
            if post not in crowded:
                self.check_one_bad(WIDE, (post,), ())
            if post not in unclaimed:
                self.check_one_bad(WIDE, (), (post,))

    def check_one_bad(self, instance, crowded, reserves):
        """One of the two is wrong, and the error has that very value."""
        self.check_bad(instance, crowded, reserves, crowded if crowded else reserves)

    def test_wrong_values(self):
        for wrong in ((1, 0), (0, 0), (0, 1, 1), (0, 1, 0), [0], [], (False,), (True,), (0, True), (False, 1), ((0,),)):
            self.check_bad(WIDE, wrong, (3,), wrong)
        for wrong in ((4, 3), (3, 3), (3, 4, 4), (3, 5, 4), [3], [], (3, True), (3, None), ("3",), ((3, 4),)):
            self.check_bad(WIDE, (0, 1), wrong, wrong)

    def test_a_bool_instead_of_a_post(self):
        crowded_ones = ((1, 1, 1), (((0, 2), 2), ((1, 2), 2)))
        self.assertEqual(shortfall(crowded_ones, (0, 1), (2,)), 1)
        for wrong in ((False,), (True,), (False, True), (0, True), (False, 1)):
            self.check_bad(crowded_ones, wrong, (2,), wrong)
        free_ones = ((1, 1, 1), (((2, 0), 2), ((2, 1), 2)))
        self.assertEqual(shortfall(free_ones, (2,), (0, 1)), 1)
        for wrong in ((False,), (True,), (False, True), (0, True), (False, 1)):
            self.check_bad(free_ones, (2,), wrong, wrong)

    def test_odd_values(self):
        for value in ODD_VALUES:
            if plain(value) not in [plain(part) for part in subsets((0, 1))]:
                self.check_bad(WIDE, value, (3,), value)
            if plain(value) != plain(()):
                self.check_bad(WIDE, (0,), value, value)

    def test_the_first_argument_comes_first(self):
        for first in ((2,), [0], None, (False,), (1, 0), {"a": 1}):
            for second in ((0,), [3], None, (True,), (4, 3), ()):
                self.check_bad(WIDE, first, second, first)

    def test_many_wrong_pairs(self):
        rng = generator(53)
        raised = 0
        for instance in many_instances(rng, 800):
            right = [[plain(part) for part in subsets(posts)] for posts in sorted_out(instance)]
            pair = tuple(rng.choice(subsets(posts)) for posts in sorted_out(instance))
            crowded, reserves = [rng.choice((part, spoiled(rng, part))) for part in pair]
            if plain(crowded) not in right[0]:
                self.check_bad(instance, crowded, reserves, crowded)
                raised += 1
            elif plain(reserves) not in right[1]:
                self.check_bad(instance, crowded, reserves, reserves)
                raised += 1
            else:
                number = counted_shortfall(instance, crowded, reserves)
                self.assertEqual(shortfall(instance, crowded, reserves), number)
        self.assertGreater(raised, 200)


class FindVerdict(unittest.TestCase):
    def check(self, instance):
        """The verdict is right, whatever it is; returns its word."""
        verdict = find_verdict(instance)
        self.assertIs(type(verdict), tuple)
        self.assertIs(verdict_holds(instance, verdict), True, (instance, verdict))
        self.assertEqual(plain(find_verdict(instance)), plain(verdict))
        if greatest_shortfall(instance) > 0:
            word, crowded, reserves = verdict
            self.assertEqual(word, "shortage", instance)
            self.assertIn((crowded, reserves), list(all_pairs(instance)), instance)
            self.assertGreater(counted_shortfall(instance, crowded, reserves), 0, instance)
        else:
            word, assignment = verdict
            self.assertEqual(word, "unbeaten", instance)
            self.assertIs(is_assignment(instance, assignment), True, (instance, assignment))
            self.assertIs(both_conditions(instance, assignment), True, (instance, assignment))
        return word

    def test_example(self):
        self.assertEqual(find_verdict(I), ("unbeaten", ((1, 1, 0),)))

    def test_small_instances_against_all_assignments(self):
        rng = generator(54)
        words = []
        for turn in range(300):
            instance = small_instance(rng)
            words.append(self.check(instance))
            good = [one for one in small_assignments(instance) if both_conditions(instance, one)]
            self.assertEqual(words[-1] == "unbeaten", len(good) > 0)
        self.assertGreater(words.count("unbeaten"), 50)
        self.assertGreater(words.count("shortage"), 10)

    def test_small_instances_against_all_changes(self):
        rng = generator(55)
        for turn in range(40):
            instance = small_instance(rng, 3)
            good = [
                one for one in small_assignments(instance) if max(small_changes(instance, one).values()) == 0
            ]
            self.assertEqual(self.check(instance) == "unbeaten", len(good) > 0)

    def test_large_instances(self):
        rng = generator(56)
        words = [self.check(instance) for instance in many_instances(rng, 600)]
        self.assertGreater(words.count("unbeaten"), 100)
        self.assertGreater(words.count("shortage"), 100)

    def test_instances_close_to_balance(self):
        rng = generator(57)
        turned = 0
        for turn in range(400):
            instance = balanced_instance(rng, rng.choice((4, BIG)))
            words = {self.check(instance)}
            for post, capacity in enumerate(instance[0]):
                for other in (capacity - 1, capacity + 1):
                    if 1 <= other <= BIG:
                        words.add(self.check(replaced(instance, (0, post), other)))
            turned += len(words) == 2
        self.assertGreater(turned, 80)

    def test_one_place_decides(self):
        for capacity in (BIG - 2, BIG - 1, BIG):
            instance = ((1, capacity), (((0, 1), BIG),))
            self.assertEqual(self.check(instance), "unbeaten" if capacity >= BIG - 1 else "shortage")
        for capacity in range(1, 12):
            instance = ((3, 4, capacity), (((0, 2), 5), ((1, 2), 7), ((2,), 2)))
            # With 2 places or fewer, post 2 is claimed and no reserve at all.
            self.assertEqual(self.check(instance), "shortage" if 3 <= capacity <= 6 else "unbeaten")

    def test_earlier_groups_make_way(self):
        groups = (((0, 1, 2), 4), ((0, 3), 4), ((1, 4), 2), ((2, 4), 2), ((5, 3), 3))
        for room in range(1, 9):
            self.check(((3, 3, 1, room, 1, 1), groups))
            self.check(((3, 3, 1, 9 - room, 2, 1), groups[::-1]))
        chain = ((((0, 1), BIG), ((0, 3), BIG), ((2, 3), BIG), ((2, 5), BIG), ((4, 5), BIG), ((4,), BIG)))
        for capacity in (1, BIG - 1, BIG):
            self.check(((BIG, capacity, BIG, BIG, BIG, BIG), chain))
            self.check(((BIG, capacity, BIG, BIG - 1, BIG - 1, 1), chain))

    def test_nobody_needs_a_reserve(self):
        self.assertEqual(find_verdict(((5,), (((0,), 5), ((), 2)))), ("unbeaten", ((5, 0), (2,))))
        self.assertEqual(find_verdict(((1,), (((), BIG),))), ("unbeaten", ((BIG,),)))

    def test_arguments_do_not_change(self):
        rng = generator(58)
        for instance in many_instances(rng, 60):
            assignment = some_assignment(rng, instance)
            value = spoiled(rng, spoiled(rng, find_verdict(instance)))
            crowded, reserves = [spoiled(rng, posts) for posts in sorted_out(instance)]
            before = copy.deepcopy((instance, assignment, value, crowded, reserves))
            is_unbeaten(instance, assignment)
            find_verdict(instance)
            verdict_holds(instance, value)
            try:
                shortfall(instance, crowded, reserves)
            except BadPosts:
                pass
            self.assertEqual(repr((instance, assignment, value, crowded, reserves)), repr(before))


class VerdictHolds(unittest.TestCase):
    def check(self, instance, value, answer):
        self.assertIs(verdict_holds(instance, value), answer, (instance, value))
        self.assertIs(verdict_holds(instance, value), answer, (instance, value))

    def test_example(self):
        found = [verdict_holds(J, ("shortage", (0,), (1,))), verdict_holds(J, ("unbeaten", ((1, 1, 1),)))]
        self.assertEqual(found, [True, False])

    def test_any_unbeaten_assignment(self):
        rng = generator(59)
        several = 0
        for turn in range(100):
            instance = small_instance(rng, 4)
            right = 0
            for assignment in small_assignments(instance):
                answer = both_conditions(instance, assignment)
                self.check(instance, ("unbeaten", assignment), answer)
                right += answer
            several += right > 1
        self.assertGreater(several, 5)

    def test_any_shortage(self):
        rng = generator(60)
        several = 0
        for instance in many_instances(rng, 200):
            right = 0
            for crowded, reserves in all_pairs(instance):
                answer = counted_shortfall(instance, crowded, reserves) > 0
                self.check(instance, ("shortage", crowded, reserves), answer)
                right += answer
            several += right > 1
        self.assertGreater(several, 30)

    def test_never_both(self):
        rng = generator(61)
        for turn in range(60):
            instance = small_instance(rng, 4)
            words = {"unbeaten" for one in small_assignments(instance) if verdict_holds(instance, ("unbeaten", one))}
            words |= {"shortage" for pair in all_pairs(instance) if verdict_holds(instance, ("shortage", *pair))}
            self.assertEqual(len(words), 1)

    def test_either_word_with_the_fields_of_the_other(self):
        self.check(I, ("unbeaten", ((1, 1, 0),)), True)
        self.check(J, ("shortage", (0,), (1,)), True)
        wrong = (
            ("shortage", ((1, 1, 0),)), ("shortage", ((1, 1, 0),), ()), ("unbeaten", (0,), (1,)), ("unbeaten",),
            ("unbeaten", ((1, 1, 0),), ()), ("shortage", (0,)), ("shortage", (0,), (1,), ()), ("shortage",), (),
            ("Unbeaten", ((1, 1, 0),)), ("unbeaten ", ((1, 1, 0),)), ("", ((1, 1, 0),)), (None, ((1, 1, 0),)),
            ["unbeaten", ((1, 1, 0),)], ["shortage", (0,), (1,)], ("shortage", (), ()), ("shortage", [0], (1,)),
            ("shortage", (0,), [1]), ("shortage", (False,), (1,)), ("shortage", (0,), (True,)), "unbeaten",
            "shortage", ("unbeaten", None), ("unbeaten", ()), ("shortage", None, None), ("unbeaten", [(1, 1, 0)]),
            ("unbeaten", ([1, 1, 0],)), ("unbeaten", ((True, 1, 0),)), ("unbeaten", ((1, 1, False),)),
        )
        for value in wrong:
            self.check(I, value, False)
            self.check(J, value, False)

    def test_verdicts_of_another_instance(self):
        rng = generator(62)
        answers = []
        for turn in range(300):
            instance = near_instance(rng, 4)
            post = rng.randrange(len(instance[0]))
            other = replaced(instance, (0, post), instance[0][post] + 1)
            for here, there in ((instance, other), (other, instance), (instance, some_instance(rng))):
                verdict = find_verdict(there)
                answers.append(expected_holds(here, verdict))
                self.check(here, verdict, answers[-1])
        self.assertGreater(answers.count(True), 50)
        self.assertGreater(answers.count(False), 50)

    def test_odd_values_in_every_place(self):
        for instance in (I, J, K, WIDE):
            verdict = find_verdict(instance)
            for path in paths(verdict):
                for part in ODD_VALUES:
                    changed = replaced(verdict, path, part)
                    self.check(instance, changed, expected_holds(instance, changed))
        for value in ODD_VALUES:
            self.check(J, value, False)

    def test_bools_and_lists_in_every_place(self):
        for instance in (I, J, WIDE, ((1, 1, 1), (((0, 2), 2), ((1, 2), 2)))):
            verdict = find_verdict(instance)
            for path in paths(verdict):
                part = part_at(verdict, path)
                if isinstance(part, tuple):
                    self.check(instance, replaced(verdict, path, list(part)), False)
                elif part in (0, 1):
                    self.check(instance, replaced(verdict, path, bool(part)), False)

    def test_many_spoiled_ones(self):
        rng = generator(63)
        answers = []
        for instance in many_instances(rng, 600):
            verdict = find_verdict(instance)
            self.check(instance, verdict, True)
            once = spoiled(rng, verdict)
            moved = ("unbeaten", some_assignment(rng, instance))
            if verdict[0] == "unbeaten":
                moved = ("unbeaten", one_moved(rng, instance, verdict[1]))
            for value in (once, spoiled(rng, once), moved):
                answers.append(expected_holds(instance, value))
                self.check(instance, value, answers[-1])
        self.assertGreater(answers.count(True), 30)
        self.assertGreater(answers.count(False), 300)
