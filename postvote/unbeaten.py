"""Unbeaten assignments, and shortages, which show that there is none."""

from postvote.assignments import is_assignment
from postvote.checks import is_tuple_of, is_whole
from postvote.errors import BadPosts, NoUnbeaten
from postvote.instances import (
    claimed_posts, crowded_posts, demands, excesses, free_places, option_post, reserve_option,
)
from postvote.reserves import group_rows, planned_numbers, reserve_transport


def is_unbeaten(instance, assignment):
    """Whether no change of the assignment gets more votes for it than against it."""
    return only_reserves(instance, assignment) and all_claims_met(instance, assignment)


def only_reserves(instance, assignment):
    """Whether all applicants have option 0 or the reserve option of their group."""
    for group, share in enumerate(assignment):
        usable = (0, reserve_option(instance, group))
        if any([number > 0 for option, number in enumerate(share) if option not in usable]):
            return False
    return True


def all_claims_met(instance, assignment):
    """Whether each post has as many applicants who rank it first as it can have."""
    loads = [0] * len(instance[0])
    for group, share in zip(instance[1], assignment):
        if len(group[0]) > 0:
            loads[group[0][0]] += share[0]
    met = [min(capacity, demand) for capacity, demand in zip(instance[0], demands(instance))]
    return loads == met


def shortfall(instance, crowded, reserves):
    """By how much the reserves fall short of what the crowded posts need. Raises BadPosts for other values."""
    if not is_choice(crowded, crowded_posts(instance)):
        raise BadPosts(crowded)
    if not is_choice(reserves, unclaimed_posts(instance)):
        raise BadPosts(reserves)
    over = excesses(instance)
    free = free_places(instance)
    needed = sum([over[post] for post in crowded]) - escape_count(instance, crowded, reserves)
    return needed - sum([free[post] for post in reserves])


def is_choice(value, posts):
    """Whether any value is an ascending tuple of some of these posts."""
    if not is_tuple_of(value, 0, len(posts)):
        return False
    if not all([is_whole(post) and post in posts for post in value]):
        return False
    return all([low < high for low, high in zip(value, value[1:])])


def unclaimed_posts(instance):
    """The posts that are not claimed."""
    claimed = claimed_posts(instance)
    return tuple([post for post in range(len(instance[0])) if post not in claimed])


def escape_count(instance, crowded, reserves):
    """The number of applicants who rank a post in crowded first and whose reserve option is not in reserves."""
    total = 0
    for group, (posts, count) in enumerate(instance[1]):
        if len(posts) > 0 and posts[0] in crowded:
            if option_post(instance, group, reserve_option(instance, group)) not in reserves:
                total += count
    return total


def find_verdict(instance):
    """An unbeaten assignment as ("unbeaten", assignment), or ("shortage", crowded, reserves)."""
    try:
        transport = reserve_transport(instance, group_rows(instance, [1] * len(instance[1])))
    except NoUnbeaten as e:
        return ("shortage", e.crowded, e.reserves)
    shares = [planned_numbers(instance, group, numbers) for group, numbers in enumerate(transport.plan)]
    return ("unbeaten", tuple(shares))


def verdict_holds(instance, value):
    """Whether any value is "unbeaten" with an unbeaten assignment, or "shortage" with a shortage."""
    if is_tuple_of(value, 2, 2) and value[0] == "unbeaten":
        return is_assignment(instance, value[1]) and is_unbeaten(instance, value[1])
    if is_tuple_of(value, 3, 3) and value[0] == "shortage":
        return is_shortage(instance, value[1], value[2])
    return False


def is_shortage(instance, crowded, reserves):
    """Whether any two values are a shortage."""
    try:
        return shortfall(instance, crowded, reserves) > 0
    except BadPosts:
        return False
