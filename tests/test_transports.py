import unittest

from postvote.transports import Transport, option_columns, post_transport
from tests.support import BIG, generator


def some_rows(rng, columns, most):
    rows = []
    for at in range(rng.randint(1, 4)):
        used = rng.sample(range(columns), rng.randint(1, columns))
        rows.append((rng.randint(0, most), {column: rng.randint(-3, 3) for column in used}))
    return rows


def cheapest_total(rows, room):
    """The least cost of all distributions, found by trying each column for each unit; None if there is none."""
    totals = {tuple(room): 0}
    for amount, costs in rows:
        for unit in range(amount):
            further = {}
            for left, total in totals.items():
                for column, cost in costs.items():
                    if left[column] > 0:
                        rest = left[:column] + (left[column] - 1,) + left[column + 1:]
                        further[rest] = min(total + cost, further.get(rest, total + cost))
            totals = further
    return min(totals.values(), default=None)


def planned_total(transport):
    return sum(
        number * costs[column]
        for numbers, costs in zip(transport.plan, transport.costs)
        for column, number in numbers.items()
    )


class Transports(unittest.TestCase):
    def check_plan(self, transport, rows, room):
        """The numbers of each row add up, and those of each column leave what room says."""
        used = [0] * len(room)
        for (amount, costs), numbers in zip(rows, transport.plan):
            self.assertEqual(list(numbers), list(costs))
            self.assertEqual(sum(numbers.values()), amount)
            self.assertGreaterEqual(min(numbers.values()), 0)
            for column, number in numbers.items():
                used[column] += number
        self.assertEqual([places - number for places, number in zip(room, used)], transport.room)
        self.assertGreaterEqual(min(transport.room), 0)

    def check_full(self, transport, rows, room, full):
        """Rows that can use only the columns in full have more units than these columns hold."""
        self.assertEqual(full, sorted(set(full)))
        bound = sum(amount for amount, costs in rows if set(costs) <= set(full))
        self.assertGreater(bound, sum(room[column] for column in full))

    def test_the_least_cost_after_each_row(self):
        rng = generator(70)
        endings = {True: 0, False: 0}
        for turn in range(600):
            room = [rng.randint(1, 4) for column in range(rng.randint(1, 4))]
            rows = some_rows(rng, len(room), 4)
            transport = Transport(room)
            for at, (amount, costs) in enumerate(rows):
                done = rows[:at + 1]
                full = transport.add_row(amount, costs)
                total = cheapest_total(done, room)
                endings[full is None] += 1
                self.assertEqual(full is None, total is not None)
                if full is not None:
                    self.check_full(transport, done, room, full)
                    break
                self.check_plan(transport, done, room)
                self.assertEqual(planned_total(transport), total)
        self.assertGreater(min(endings.values()), 100)

    def test_prices_show_that_no_plan_costs_less(self):
        rng = generator(71)
        for turn in range(500):
            room = [rng.randint(1, 5) for column in range(rng.randint(1, 5))] + [100]
            rows = [(amount, {**costs, len(room) - 1: 3}) for amount, costs in some_rows(rng, len(room) - 1, 5)]
            transport = Transport(room)
            self.assertEqual([transport.add_row(*row) for row in rows], [None] * len(rows))
            prices = transport.column_prices(6)
            bound = -sum(places * price for places, price in zip(room, prices))
            bound += sum(amount * min(cost + prices[at] for at, cost in costs.items()) for amount, costs in rows)
            self.assertEqual(planned_total(transport), bound)
            self.assertGreaterEqual(min(prices), 0)
            self.assertEqual(transport.column_prices(6), prices)

    def test_a_column_without_any_places_has_the_highest_price(self):
        transport = Transport([0, 5])
        self.assertIs(transport.add_row(3, {0: -1, 1: 1}), None)
        self.assertEqual(transport.column_prices(2), [2, 0])
        self.assertEqual(transport.plan, [{0: 0, 1: 3}])

    def test_a_few_steps_are_enough_for_great_amounts(self):
        # A counter in place of push: each push must do as much as it can, not one unit.
        pushes = []

        class Counted(Transport):
            def push(self, found, end, amount):
                pushes.append(amount)
                return Transport.push(self, found, end, amount)

        rng = generator(72)
        for turn in range(40):
            transport = Counted([rng.randint(1, BIG) for column in range(6)] + [10 * BIG + 1])
            for at in range(10):
                order = rng.sample(range(6), 6) + [6]
                for start in range(7):
                    costs = {column: (end > start) - (end < start) for end, column in enumerate(order)}
                    self.assertIs(transport.add_row(rng.randint(1, BIG // 7), costs), None)
        self.assertLess(len(pushes), 40 * 70 * 4)

    def test_the_caller_keeps_its_lists(self):
        room = [1, 2]
        costs = {0: 0, 1: 1}
        transport = Transport(room)
        transport.add_row(3, costs)
        self.assertEqual((room, costs), ([1, 2], {0: 0, 1: 1}))
        costs[0] = 9
        room[0] = 9
        self.assertEqual(transport.costs, [{0: 0, 1: 1}])
        self.assertEqual(transport.room, [0, 0])

    def test_columns_of_an_instance(self):
        instance = ((3, 4), (((1, 0), 5), ((), 6), ((0,), 7)))
        self.assertEqual(post_transport(instance).room, [3, 4, 19])
        self.assertEqual([option_columns(instance, group) for group in range(3)], [(1, 0, 2), (2,), (0, 2)])

    def test_no_post_never_fills_up(self):
        instance = ((1,), (((), BIG), ((0,), BIG)))
        transport = post_transport(instance)
        for row in range(2):
            self.assertIs(transport.add_row(BIG, {1: 0}), None)
        self.assertEqual(transport.room, [1, 1])
