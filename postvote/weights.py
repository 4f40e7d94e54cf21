"""Weights: the vector with the greatest value, and prices that show that no vector has more."""

from postvote.bounds import LIMIT
from postvote.checks import is_tuple_of, is_whole, is_within
from postvote.errors import BadPrices
from postvote.instances import excesses, free_places
from postvote.reserves import group_routes, group_rows, reserve_transport
from postvote.vectors import is_vector


def vector_value(weights, vector):
    """The sum of the integers of a vector, each times the weight of its group."""
    return sum([weight * number for weight, number in zip(weights, vector)])


def price_bound(instance, weights, prices):
    """The bound of vector prices: no vector has a greater value. Raises BadPrices for any other value."""
    if not is_vector_prices(instance, prices):
        raise BadPrices()
    crowd, places = prices
    total = sum([excess * price for excess, price in zip(excesses(instance), crowd)])
    total += sum([free * price for free, price in zip(free_places(instance), places)])
    for route, group, weight in zip(group_routes(instance), instance[1], weights):
        if route is not None:
            cost = crowd[route[0]] + (0 if route[1] is None else places[route[1]])
            total += group[1] * max(0, weight - cost)
    return total


def is_vector_prices(instance, value):
    """Whether any value is a pair of prices of the crowded posts and of the free places."""
    if not (is_tuple_of(value, 2, 2) and is_price_row(instance, value[0]) and is_price_row(instance, value[1])):
        return False
    crowd, places = value
    if any([price != 0 for excess, price in zip(excesses(instance), crowd) if excess == 0]):
        return False
    if any([price != 0 for free, price in zip(free_places(instance), places) if free == 0]):
        return False
    return all([price >= 0 for price in places])


def is_price_row(instance, value):
    """Whether any value is a tuple of one integer from -LIMIT to LIMIT for each post."""
    if not is_tuple_of(value, len(instance[0]), len(instance[0])):
        return False
    return all([is_within(price, -LIMIT, LIMIT) for price in value])


def best_certificate(instance, weights):
    """A tuple (value, vector, prices) of the greatest value. Raises NoUnbeaten if there is no vector."""
    # A transport looks for the least cost, and each cost must be greater than 0.
    base = max(weights) + 1
    costs = [base - weight for weight in weights]
    transport = reserve_transport(instance, group_rows(instance, costs))
    vector = planned_vector(instance, transport.plan)
    # A way passes through each column at most once, so no way costs or saves more than this.
    highest = max(costs) * len(transport.room)
    prices = vector_prices(instance, transport.column_prices(highest), base)
    return vector_value(weights, vector), vector, prices


def planned_vector(instance, plan):
    """The vector of the plan of a reserve_transport with one row for each group."""
    return tuple([
        0 if route is None else group[1] - numbers[route[0]]
        for route, group, numbers in zip(group_routes(instance), instance[1], plan)
    ])


def vector_prices(instance, worths, base):
    """The vector prices that follow from what a place of each post is worth, if a reserve costs base - weight."""
    crowd = [base - worth if excess > 0 else 0 for excess, worth in zip(excesses(instance), worths)]
    places = [worth if free > 0 else 0 for free, worth in zip(free_places(instance), worths)]
    return tuple(crowd), tuple(places)


def best_holds(instance, weights, value):
    """Whether any value is a number with a vector of this value and vector prices with this bound."""
    if not is_tuple_of(value, 3, 3):
        return False
    number, vector, prices = value
    if not (is_whole(number) and is_vector(instance, vector) and is_vector_prices(instance, prices)):
        return False
    return vector_value(weights, vector) == number and price_bound(instance, weights, prices) == number
