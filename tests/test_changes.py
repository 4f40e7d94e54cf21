import copy
import itertools
import unittest

from postvote.changes import change_result, change_surplus, is_change, reverse_change, stay_change
from postvote.errors import NoChange
from tests.support import (
    BIG, ODD_VALUES, generator, many_instances, part_at, paths, plain, replaced, small_assignments, small_changes,
    small_instance, some_assignment, some_change, spoiled,
)

I = ((1, 1), (((0, 1), 2),))
K = ((1, 2, 1), (((0, 1), 2), ((0, 2), 2)))
HALF = ((1, 1, 0), (0, 1, 1))
MOVE = (((0, 1, 0), (1, 0, 0), (0, 0, 0)), ((0, 0, 0), (0, 0, 1), (0, 1, 0)))


def arrivals(value):
    return tuple(tuple(sum(row[end] for row in table) for end in range(len(table))) for table in value)


def counted_loads(instance, shares):
    loads = dict.fromkeys(range(len(instance[0])), 0)
    for (posts, count), share in zip(instance[1], shares):
        for option, post in enumerate(posts):
            loads[post] += share[option]
    return loads


def expected(instance, assignment, value):
    """Whether value is a change, read off DOC.md point by point."""
    if type(value) is not tuple or len(value) != len(assignment):
        return False
    for share, table in zip(assignment, value):
        if type(table) is not tuple or len(table) != len(share):
            return False
        for number, row in zip(share, table):
            if type(row) is not tuple or len(row) != len(share):
                return False
            if [part for part in row if type(part) is not int or part < 0] or sum(row) != number:
                return False
    loads = counted_loads(instance, arrivals(value))
    return all(loads[post] <= capacity for post, capacity in enumerate(instance[0]))


def expected_surplus(change):
    votes = 0
    for table in change:
        for start, end in itertools.combinations(range(len(table)), 2):
            votes += table[end][start] - table[start][end]
    return votes


class ChangeCase(unittest.TestCase):
    def check(self, instance, assignment, value, answer):
        """is_change answers so, and change_result agrees with it."""
        told = (instance, assignment, value)
        for again in range(2):
            self.assertIs(is_change(*told), answer, told)
            if answer:
                self.assertEqual(plain(change_result(*told)), plain(arrivals(value)), told)
            else:
                self.check_no_change(told)

    def check_no_change(self, told):
        with self.assertRaises(NoChange) as caught:
            change_result(*told)
        self.assertIs(type(caught.exception), NoChange)


class IsChange(ChangeCase):
    def test_example(self):
        self.check(I, ((1, 1, 0),), (((0, 1, 0), (1, 0, 0), (0, 0, 0)),), True)

    def test_all_tables_of_small_instances(self):
        instances = (
            (((1,), (((0,), 2),)), ((1, 1),)),
            (((2,), (((0,), 2), ((), 1))), ((0, 2), (1,))),
            (((1, 1), (((0, 1), 2),)), ((1, 0, 1),)),
        )
        for instance, assignment in instances:
            right = set(small_changes(instance, assignment))
            self.assertGreater(len(right), 1)
            tables = []
            for share in assignment:
                rows = list(itertools.product(range(-1, max(share) + 2), repeat=len(share)))
                rows = [row for row in rows if sum(row) <= 2]
                tables.append(list(itertools.product(rows, repeat=len(share)))[::7])
            for value in itertools.product(*tables):
                self.assertIs(is_change(instance, assignment, value), value in right)
            for value in right:
                self.check(instance, assignment, value, True)

    def test_a_post_filled_beyond_its_capacity(self):
        self.check(I, ((0, 0, 2),), (((0, 0, 0), (0, 0, 0), (1, 1, 0)),), True)
        self.check(I, ((0, 0, 2),), (((0, 0, 0), (0, 0, 0), (2, 0, 0)),), False)
        self.check(I, ((1, 1, 0),), (((1, 0, 0), (1, 0, 0), (0, 0, 0)),), False)
        two = ((BIG,), (((0,), BIG), ((0,), BIG)))
        start = ((BIG, 0), (0, BIG))
        self.check(two, start, (((BIG, 0), (0, 0)), ((0, 0), (0, BIG))), True)
        self.check(two, start, (((BIG, 0), (0, 0)), ((0, 0), (1, BIG - 1))), False)
        self.check(two, start, (((BIG - 1, 1), (0, 0)), ((0, 0), (1, BIG - 1))), True)

    def test_rows_that_add_up_wrongly(self):
        self.check(K, HALF, MOVE, True)
        for path in paths(MOVE):
            part = part_at(MOVE, path)
            if isinstance(part, int):
                self.check(K, HALF, replaced(MOVE, path, part + 1), False)
                self.check(K, HALF, replaced(MOVE, path, part - 1), False)

    def test_the_result_is_right_but_the_rows_are_not(self):
        self.check(I, ((1, 1, 0),), (((0, 1, 0), (0, 0, 0), (1, 0, 0)),), False)
        self.check(I, ((1, 1, 0),), (((1, 1, 0), (0, 0, 0), (0, 0, 0)),), False)

    def test_a_negative_number_with_the_right_sums(self):
        self.check(I, ((1, 1, 0),), (((1, 0, 0), (0, 1, 0), (0, 0, 0)),), True)
        self.check(I, ((1, 1, 0),), (((2, -1, 0), (-1, 2, 0), (0, 0, 0)),), False)
        self.check(I, ((1, 1, 0),), (((1, 0, 0), (0, 1, 0), (1, -1, 0)),), False)
        self.check(I, ((1, 1, 0),), (((1, 0, 0), (0, 1, 0), (0, -1, 1)),), False)

    def test_bools(self):
        for path in paths(MOVE):
            part = part_at(MOVE, path)
            if isinstance(part, int):
                changed = replaced(MOVE, path, bool(part))
                self.assertEqual(changed, MOVE)
                self.check(K, HALF, changed, False)

    def test_lists(self):
        for path in paths(MOVE):
            part = part_at(MOVE, path)
            if isinstance(part, tuple):
                self.check(K, HALF, replaced(MOVE, path, list(part)), False)

    def test_other_numbers_of_items(self):
        for path in paths(MOVE):
            part = part_at(MOVE, path)
            if isinstance(part, tuple):
                for other in (part[:-1], part + part[-1:], part + (0,), part + ((0, 0, 0),), (), (part,)):
                    self.check(K, HALF, replaced(MOVE, path, other), False)

    def test_a_change_of_another_assignment(self):
        for start in small_assignments(I):
            for other in small_assignments(I):
                self.check(I, start, stay_change(other), start == other)

    def test_odd_values_in_every_place(self):
        for path in paths(MOVE):
            for part in ODD_VALUES:
                changed = replaced(MOVE, path, part)
                self.check(K, HALF, changed, expected(K, HALF, changed))

    def test_many_changes_and_spoiled_ones(self):
        rng = generator(20)
        for instance in many_instances(rng, 800):
            start, end = some_assignment(rng, instance), some_assignment(rng, instance)
            change = some_change(rng, start, end)
            self.check(instance, start, change, True)
            self.check(instance, start, stay_change(start), True)
            once = spoiled(rng, change)
            for value in (once, spoiled(rng, once), stay_change(end), start, reverse_change(change)):
                self.check(instance, start, value, expected(instance, start, value))

    def test_one_applicant_who_goes_elsewhere(self):
        rng = generator(21)
        answers = []
        for instance in many_instances(rng, 1200):
            start, end = some_assignment(rng, instance), some_assignment(rng, instance)
            change = some_change(rng, start, end)
            group = rng.randrange(len(start))
            row = rng.randrange(len(start[group]))
            old, new = rng.choices(range(len(start[group])), k=2)
            moved = replaced(change, (group, row, old), change[group][row][old] - 1)
            moved = replaced(moved, (group, row, new), moved[group][row][new] + 1)
            answers.append(expected(instance, start, moved))
            self.check(instance, start, moved, answers[-1])
        self.assertGreater(answers.count(True), 100)
        self.assertGreater(answers.count(False), 100)

    def test_arguments_do_not_change(self):
        rng = generator(22)
        for instance in many_instances(rng, 200):
            start = some_assignment(rng, instance)
            value = some_change(rng, start, some_assignment(rng, instance))
            for value in (value, spoiled(rng, spoiled(rng, value))):
                before = copy.deepcopy((instance, start, value))
                is_change(instance, start, value)
                try:
                    change_result(instance, start, value)
                except NoChange:
                    pass
                self.assertEqual(repr((instance, start, value)), repr(before))


class Results(ChangeCase):
    def test_examples(self):
        change = (((0, 0, 0), (0, 0, 0), (1, 1, 0)),)
        self.assertEqual(change_result(I, ((0, 0, 2),), change), ((1, 1, 0),))
        self.assertEqual(change_surplus((((0, 1, 0), (1, 0, 0), (0, 0, 3)),)), 0)
        self.assertEqual(stay_change(((1, 1, 0),)), (((1, 0, 0), (0, 1, 0), (0, 0, 0)),))
        self.assertEqual(reverse_change(change), (((0, 0, 1), (0, 0, 1), (0, 0, 0)),))

    def test_no_change(self):
        for value in (*ODD_VALUES, ((1, 1, 0),), stay_change(((0, 0, 2),)), [MOVE[0]], MOVE):
            self.check(I, ((1, 1, 0),), value, False)

    def test_votes_for_and_against(self):
        self.assertEqual(change_surplus((((0, 0, 0), (5, 0, 0), (0, 0, 0)),)), 5)
        self.assertEqual(change_surplus((((0, 0, 5), (0, 0, 0), (0, 0, 0)),)), -5)
        self.assertEqual(change_surplus((((7, 0, 0), (0, 8, 0), (0, 0, 9)),)), 0)
        self.assertEqual(change_surplus((((1, 2, 3), (40, 5, 6), (70, 80, 9)), ((1, 2), (300, 4)))), 477)

    def test_empty_lists(self):
        instance = ((2, 1), (((), 3), ((1,), 1), ((), BIG)))
        start = ((3,), (0, 1), (BIG,))
        change = (((3,),), ((0, 0), (1, 0)), ((BIG,),))
        self.check(instance, start, change, True)
        self.assertEqual(change_result(instance, start, change), ((3,), (1, 0), (BIG,)))
        self.assertEqual(change_surplus(change), 1)
        self.assertEqual(stay_change(start), (((3,),), ((0, 0), (0, 1)), ((BIG,),)))
        self.assertEqual(reverse_change(change), (((3,),), ((0, 1), (0, 0)), ((BIG,),)))

    def test_great_numbers(self):
        instance = ((BIG,) * 6, (((5, 0), BIG),) * 10)
        start = ((BIG, 0, 0), (0, BIG, 0)) + ((0, 0, BIG),) * 8
        change = (((0, 1, BIG - 1), (0, 0, 0), (0, 0, 0)), ((0, 0, 0), (BIG, 0, 0), (0, 0, 0)))
        change += (((0, 0, 0), (0, 0, 0), (0, 0, BIG)),) * 8
        self.check(instance, start, change, True)
        self.assertEqual(change_surplus(change), 0)
        nobody = ((0, 0, BIG),) * 10
        change = stay_change(nobody)
        for group, post in ((3, 0), (4, 1)):
            change = replaced(replaced(change, (group, 2, post), BIG), (group, 2, 2), 0)
        self.check(instance, nobody, change, True)
        self.assertEqual(change_surplus(change), 2 * BIG)
        self.assertEqual(change_surplus(reverse_change(change)), -2 * BIG)

    def test_many(self):
        rng = generator(23)
        signs = set()
        for instance in many_instances(rng, 800):
            start, end = some_assignment(rng, instance), some_assignment(rng, instance)
            change = some_change(rng, start, end)
            surplus = expected_surplus(change)
            signs.add((surplus > 0) - (surplus < 0))
            for again in range(2):
                self.assertEqual(change_result(instance, start, change), end)
                self.assertEqual(change_surplus(change), surplus)
            back = reverse_change(change)
            self.check(instance, end, back, True)
            self.assertEqual(change_result(instance, end, back), start)
            self.assertEqual(change_surplus(back), -surplus)
            self.assertEqual(plain(reverse_change(back)), plain(change))
        self.assertEqual(signs, {-1, 0, 1})

    def test_nobody_moves(self):
        rng = generator(24)
        for instance in many_instances(rng, 500):
            start = some_assignment(rng, instance)
            stay = stay_change(start)
            for share, table in zip(start, stay):
                self.assertEqual([table[option][option] for option in range(len(share))], list(share))
            self.assertEqual(change_result(instance, start, stay), start)
            self.assertEqual(change_surplus(stay), 0)
            self.assertEqual(plain(reverse_change(stay)), plain(stay))
            self.assertEqual(plain(stay_change(start)), plain(stay))

    def test_all_changes_of_small_instances(self):
        rng = generator(25)
        for turn in range(60):
            instance = small_instance(rng, 4)
            start = some_assignment(rng, instance)
            ends = set()
            for change, surplus in small_changes(instance, start).items():
                self.check(instance, start, change, True)
                self.assertEqual(change_surplus(change), surplus)
                ends.add(change_result(instance, start, change))
            self.assertEqual(ends, small_assignments(instance))

    def test_arguments_do_not_change(self):
        rng = generator(26)
        for instance in many_instances(rng, 100):
            start = some_assignment(rng, instance)
            change = some_change(rng, start, some_assignment(rng, instance))
            before = copy.deepcopy((start, change))
            change_surplus(change)
            stay_change(start)
            reverse_change(change)
            self.assertEqual(repr((start, change)), repr(before))
