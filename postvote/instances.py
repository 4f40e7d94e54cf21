"""Instances: posts with capacities, and counted groups of applicants who rank them."""

from postvote.bounds import BIG, GROUPS, POSTS
from postvote.checks import is_tuple_of, is_within


def is_instance(value):
    """Whether any value is an instance."""
    return instance_error(value) is None


def instance_error(value):
    """The first error of any value as (path, reason), or None for an instance."""
    if not is_tuple_of(value, 2, 2):
        return ((), "instance")
    posts, groups = value
    error = posts_error(posts)
    if error is None:
        error = groups_error(groups, len(posts))
    return error


def posts_error(posts):
    """The first error of the first item of an instance, or None."""
    if not is_tuple_of(posts, 1, POSTS):
        return ((0,), "posts")
    for post, capacity in enumerate(posts):
        if not is_within(capacity, 1, BIG):
            return ((0, post), "capacity")
    return None


def groups_error(groups, post_count):
    """The first error of the second item of an instance with so many posts, or None."""
    if not is_tuple_of(groups, 1, GROUPS):
        return ((1,), "groups")
    for number, group in enumerate(groups):
        if not is_tuple_of(group, 2, 2):
            return ((1, number), "group")
        if not is_post_list(group[0], post_count):
            return ((1, number, 0), "list")
        if not is_within(group[1], 1, BIG):
            return ((1, number, 1), "count")
    return None


def is_post_list(value, post_count):
    """Whether any value is a tuple of different numbers of so many posts."""
    if not is_tuple_of(value, 0, post_count):
        return False
    # A set is made of integers only: other items may not fit into one.
    if not all([is_within(post, 0, post_count - 1) for post in value]):
        return False
    return len(set(value)) == len(value)


def is_post(instance, value):
    """Whether any value is the number of a post."""
    return is_within(value, 0, len(instance[0]) - 1)


def is_group(instance, value):
    """Whether any value is the number of a group."""
    return is_within(value, 0, len(instance[1]) - 1)


def option_post(instance, group, option):
    """The post of an option of a group, or None for its last option."""
    posts = instance[1][group][0]
    if option == len(posts):
        return None
    return posts[option]


def demands(instance):
    """The number of applicants who rank each post first."""
    totals = [0] * len(instance[0])
    for posts, count in instance[1]:
        if len(posts) > 0:
            totals[posts[0]] += count
    return tuple(totals)


def excesses(instance):
    """How far the demand of each post exceeds its capacity."""
    return tuple([max(0, demand - capacity) for capacity, demand in zip(instance[0], demands(instance))])


def free_places(instance):
    """How many places of each post are left over by its demand."""
    return tuple([max(0, capacity - demand) for capacity, demand in zip(instance[0], demands(instance))])


def claimed_posts(instance):
    """The posts whose demand is at least their capacity."""
    return tuple([post for post, places in enumerate(free_places(instance)) if places == 0])


def crowded_posts(instance):
    """The posts whose demand is greater than their capacity."""
    return tuple([post for post, excess in enumerate(excesses(instance)) if excess > 0])


def reserve_option(instance, group):
    """The lowest option of a group from 1 on that is no post or a post that is not claimed."""
    posts = instance[1][group][0]
    claimed = claimed_posts(instance)
    for option in range(1, len(posts)):
        if posts[option] not in claimed:
            return option
    # No post; for an empty list this is option 0, as it must be.
    return len(posts)
