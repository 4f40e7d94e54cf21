"""Vectors: all unbeaten assignments, by one integer for each group."""

from postvote.bounds import LISTED
from postvote.checks import is_tuple_of, is_within
from postvote.cuts import find_cuts, open_range, slacks_left
from postvote.errors import BadVector, Beaten, NoGroup, TooMany
from postvote.instances import excesses, free_places, is_group, reserve_option
from postvote.reserves import group_routes
from postvote.unbeaten import is_unbeaten


def is_vector(instance, value):
    """Whether any value is a vector of the instance."""
    groups = instance[1]
    if not is_tuple_of(value, len(groups), len(groups)):
        return False
    if not all([is_within(number, 0, count) for (posts, count), number in zip(groups, value)]):
        return False
    return meets_needs(instance, value)


def meets_needs(instance, numbers):
    """Whether just the excess of each crowded post is moved, to reserves that have free places for it."""
    moved = [0] * len(instance[0])
    taken = [0] * len(instance[0])
    for route, number in zip(group_routes(instance), numbers):
        if route is None:
            if number != 0:
                return False
            continue
        moved[route[0]] += number
        if route[1] is not None:
            taken[route[1]] += number
    if moved != list(excesses(instance)):
        return False
    return all([number <= places for number, places in zip(taken, free_places(instance))])


def vector_of(instance, assignment):
    """The vector of an unbeaten assignment. Raises Beaten for any other assignment."""
    if not is_unbeaten(instance, assignment):
        raise Beaten()
    return tuple([
        0 if route is None else assignment[group][reserve_option(instance, group)]
        for group, route in enumerate(group_routes(instance))
    ])


def assignment_of(instance, vector):
    """The unbeaten assignment with this vector. Raises BadVector for any other value."""
    if not is_vector(instance, vector):
        raise BadVector()
    shares = []
    for group, number in enumerate(vector):
        posts, count = instance[1][group]
        share = [0] * (len(posts) + 1)
        share[0] = count - number
        # In an empty list this is option 0 again, and number is 0.
        share[reserve_option(instance, group)] += number
        shares.append(tuple(share))
    return tuple(shares)


def first_vector(instance):
    """The smallest vector. Raises NoUnbeaten if there is none."""
    slacks, signs = find_cuts(instance)
    return extreme_vector(instance, (), slacks, signs, 0)


def last_vector(instance):
    """The greatest vector. Raises NoUnbeaten if there is none."""
    slacks, signs = find_cuts(instance)
    return extreme_vector(instance, (), slacks, signs, 1)


def extreme_vector(instance, begun, slacks, signs, end):
    """The smallest vector (end 0) or the greatest one (end 1) that begins with begun, which leaves these slacks."""
    vector = list(begun)
    for group in range(len(begun), len(signs)):
        count = instance[1][group][1]
        number = open_range(slacks, signs[group], count)[end]
        slacks = slacks_left(slacks, signs[group], count, number)
        vector.append(number)
    return tuple(vector)


def next_vector(instance, vector):
    """The next greater vector, or None after the last one. Raises BadVector for a value that is no vector."""
    if not is_vector(instance, vector):
        raise BadVector()
    slacks, signs = find_cuts(instance)
    turn = None
    for group, number in enumerate(vector):
        count = instance[1][group][1]
        if number < open_range(slacks, signs[group], count)[1]:
            # The last group that can have more is the one that gets one more.
            turn = (vector[:group] + (number + 1,), slacks_left(slacks, signs[group], count, number + 1))
        slacks = slacks_left(slacks, signs[group], count, number)
    if turn is None:
        return None
    return extreme_vector(instance, turn[0], turn[1], signs, 0)


def all_vectors(instance, *, limit=LISTED):
    """The ascending tuple of all vectors. Raises NoUnbeaten if there is none, then TooMany beyond limit."""
    slacks, signs = find_cuts(instance)
    begun = [((), slacks)]
    for (posts, count), own in zip(instance[1], signs):
        begun = continued(begun, own, count, limit)
    return tuple([vector for vector, slacks in begun])


def continued(begun, signs, count, limit):
    """All beginnings of vectors that are longer by one group; begun has pairs of a beginning and its slacks.

    Each of them leads to a vector, so it raises TooMany as soon as there are more than limit.
    """
    longer = []
    for vector, slacks in begun:
        least, most = open_range(slacks, signs, count)
        for number in range(least, most + 1):
            if len(longer) >= limit:
                raise TooMany(limit)
            longer.append((vector + (number,), slacks_left(slacks, signs, count, number)))
    return longer


def reserve_range(instance, group):
    """The least and the greatest integer of a group in all vectors. Raises NoGroup, then NoUnbeaten."""
    if not is_group(instance, group):
        raise NoGroup(group)
    slacks, signs = find_cuts(instance)
    return open_range(slacks, signs[group], instance[1][group][1])
