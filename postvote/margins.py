"""Margins: the greatest surplus of a change, and prices that show that none is greater."""

from postvote.changes import change_surplus, gathered_tables, is_change, vote
from postvote.checks import is_tuple_of, is_whole, is_within
from postvote.transports import option_columns, post_transport

HIGHEST = 2


def price_limit(instance, assignment, prices):
    """The limit of an assignment under prices: no change has a surplus above it."""
    total = sum([capacity * price for capacity, price in zip(instance[0], prices)])
    for group, share in zip(instance[1], assignment):
        costs = [prices[post] for post in group[0]] + [0]
        total += sum([number * best_gain(start, costs) for start, number in enumerate(share)])
    return total


def best_gain(start, costs):
    """The greatest vote minus cost of an applicant who may go from option start to any option."""
    return max([vote(start, end) - cost for end, cost in enumerate(costs)])


def margin(instance, assignment):
    """The greatest surplus of all changes of the assignment."""
    return margin_certificate(instance, assignment)[0]


def margin_certificate(instance, assignment):
    """A tuple (margin, change, prices): the margin, a change with this surplus, prices with this limit."""
    transport = vote_transport(instance, assignment)
    change = gathered_tables(assignment, [tuple(numbers.values()) for numbers in transport.plan])
    # The last column is no post, which has no price. An applicant can always leave for it, and that costs
    # at most HIGHEST votes, so no price is greater.
    prices = tuple(transport.column_prices(HIGHEST)[:-1])
    return change_surplus(change), change, prices


def vote_transport(instance, assignment):
    """A transport with a row for each option of each group, in which votes are negative costs."""
    transport = post_transport(instance)
    for group, share in enumerate(assignment):
        columns = option_columns(instance, group)
        for start, number in enumerate(share):
            transport.add_row(number, {column: -vote(start, end) for end, column in enumerate(columns)})
    return transport


def margin_holds(instance, assignment, value):
    """Whether any value is the margin with a change and prices that show it."""
    if not is_tuple_of(value, 3, 3):
        return False
    number, change, prices = value
    if not (is_whole(number) and is_change(instance, assignment, change) and is_prices(instance, prices)):
        return False
    return change_surplus(change) == number and price_limit(instance, assignment, prices) == number


def is_prices(instance, value):
    """Whether any value is a tuple of one integer from 0 to HIGHEST for each post."""
    if not is_tuple_of(value, len(instance[0]), len(instance[0])):
        return False
    return all([is_within(price, 0, HIGHEST) for price in value])
