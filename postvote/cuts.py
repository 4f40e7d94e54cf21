"""Cuts: conditions that tell, one group after the other, which integers a vector can have."""

from postvote.errors import NoUnbeaten
from postvote.instances import demands
from postvote.reserves import group_routes


def find_cuts(instance):
    """The slack of each cut, and for each group its sign in each cut. Raises NoUnbeaten if there is no vector.

    In every vector, the integers of the groups with sign 1 and the counts minus the integers of the groups
    with sign -1 add up to at most the slack. By Hoffman's theorem on circulations this is also enough: some
    groups can have given integers, and the others find theirs, if and only if the given ones alone stay
    within all slacks.
    """
    routes = group_routes(instance)
    spare = [capacity - demand for capacity, demand in zip(instance[0], demands(instance))]
    # Without a route the integer is 0. With one, the integers do not add up to more than the excess.
    cuts = [(0, [1 if route is None else 0 for route in routes])]
    cuts.extend([(-left, starting_signs(routes, post)) for post, left in enumerate(spare) if left < 0])
    for inside in all_subsets([post for post, left in enumerate(spare) if left != 0]):
        cuts.append(set_cut(instance, spare, routes, inside))
    rows = [signs for slack, signs in cuts]
    return [slack for slack, signs in cuts], list(zip(*rows))


def starting_signs(routes, post):
    """1 for each group whose route starts at the post, 0 for the others."""
    return [1 if route is not None and route[0] == post else 0 for route in routes]


def all_subsets(posts):
    """All tuples of some of the posts, in their order."""
    found = [()]
    for post in posts:
        found = found + [part + (post,) for part in found]
    return found


def set_cut(instance, spare, routes, inside):
    """The cut of a set of posts: what is too much for it leaves it by the groups whose routes lead out.

    Its slack is the negative of the shortfall. Raises NoUnbeaten if the slack is negative.
    """
    signs = [0 if route is None else int(route[1] in inside) - int(route[0] in inside) for route in routes]
    slack = sum([spare[post] for post in inside])
    slack += sum([count for (posts, count), sign in zip(instance[1], signs) if sign < 0])
    if slack < 0:
        crowded = tuple([post for post in inside if spare[post] < 0])
        raise NoUnbeaten(crowded, tuple([post for post in inside if spare[post] > 0]))
    return slack, signs


def open_range(slacks, signs, count):
    """The least and the greatest integer that a group with this count and these signs can have."""
    least = max([0] + [count - slack for slack, sign in zip(slacks, signs) if sign < 0])
    most = min([count] + [slack for slack, sign in zip(slacks, signs) if sign > 0])
    return least, most


def slacks_left(slacks, signs, count, number):
    """The slacks after a group with this count and these signs is given its integer."""
    used = {0: 0, 1: number, -1: count - number}
    return [slack - used[sign] for slack, sign in zip(slacks, signs)]
