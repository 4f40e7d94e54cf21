"""Transports: counted rows that are distributed among columns with limited room, at the least cost."""


class Transport:
    """A cheapest distribution of rows among columns.

    plan has, for each row, a dict of the numbers at the columns that the row may use. It is kept so that
    no distribution of the same numbers costs less. room is what is left of each column.
    """

    def __init__(self, room):
        self.room = list(room)
        self.costs = []
        self.plan = []

    def add_row(self, amount, costs):
        """Adds a row of amount units; costs has the cost of a unit for each column that the row may use.

        Earlier rows are moved where that makes room or lowers the total cost. Returns None if the whole
        row finds room. Otherwise returns, in ascending order, the full columns that keep the rest out.
        """
        self.costs.append(dict(costs))
        self.plan.append({column: 0 for column in costs})
        while amount > 0:
            found = self.search_columns()
            ends = [(found[column][:2], column) for column in found if self.room[column] > 0]
            if len(ends) == 0:
                return sorted(found)
            amount -= self.push(found, min(ends)[1], amount)
        return None

    def search_columns(self):
        """How to take one more unit of the last row to each column within reach.

        Each is a tuple (cost, steps, row, start) of a cheapest way, and of these one with the fewest steps:
        its last step moves a unit of this row from the column start, or is the new unit if start is None.
        With more steps than needed, the number of pushes could grow with the amounts.
        """
        last = len(self.plan) - 1
        found = {column: (cost, 1, last, None) for column, cost in self.costs[last].items()}
        waiting = list(found)
        while len(waiting) > 0:
            start = waiting.pop(0)
            # No way need go on from a column with room: it can end there at no greater cost.
            if self.room[start] > 0:
                continue
            for end, (cost, row) in self.cheapest_moves(start).items():
                offer = (found[start][0] + cost, found[start][1] + 1, row, start)
                if end not in found or offer[:2] < found[end][:2]:
                    found[end] = offer
                    waiting.append(end)
        return found

    def cheapest_moves(self, start):
        """For each column to which a unit can move from start: the least cost, and a row that has it."""
        moves = {}
        for row, numbers in enumerate(self.plan):
            if numbers.get(start, 0) == 0:
                continue
            costs = self.costs[row]
            for end in costs:
                cost = costs[end] - costs[start]
                if end != start and (end not in moves or cost < moves[end][0]):
                    moves[end] = (cost, row)
        return moves

    def push(self, found, end, amount):
        """Sends as many units as possible, at most amount, along the way that was found to the column end."""
        steps = way_to(found, end)
        held = [self.plan[row][start] for row, start, stop in steps if start is not None]
        many = min([amount, self.room[end]] + held)
        for row, start, stop in steps:
            numbers = self.plan[row]
            numbers[stop] += many
            if start is not None:
                numbers[start] -= many
        self.room[end] -= many
        return many

    def column_prices(self, highest):
        """What a place of each column is worth: the least cost of moving a unit from it to one with room.

        It is 0 for a column with room, and at most highest.
        """
        moves = [self.cheapest_moves(column) for column in range(len(self.room))]
        prices = [0 if left > 0 else highest for left in self.room]
        # A cheapest way passes through each column at most once.
        for turn in range(len(self.room)):
            prices = [
                min([price] + [cost + prices[end] for end, (cost, row) in moves[column].items()])
                for column, price in enumerate(prices)
            ]
        return prices


def way_to(found, end):
    """The steps (row, start, stop) of the way that was found to a column, the last one first."""
    steps = []
    while end is not None:
        row, start = found[end][2:]
        steps.append((row, start, end))
        end = start
    return steps


def post_transport(instance):
    """A transport with a column for each post, and a last one, for no post, that never fills up."""
    capacities, groups = instance
    return Transport(list(capacities) + [sum([count for posts, count in groups]) + 1])


def option_columns(instance, group):
    """The column of each option of a group in a post_transport."""
    return instance[1][group][0] + (len(instance[0]),)
