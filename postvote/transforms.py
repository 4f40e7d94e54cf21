"""Transformations: instances that are made from other instances."""

from postvote.bounds import BIG, GROUPS, POSTS
from postvote.checks import is_within
from postvote.errors import BadList, BadNumber, LastOne, NoGroup, NoPost, TooGreat, TooMany
from postvote.instances import is_group, is_post, is_post_list, reserve_option


def with_item(items, at, item):
    """The tuple with another item at this index."""
    return items[:at] + (item,) + items[at + 1:]


def with_capacity(instance, post, capacity):
    """The instance with this capacity of a post. Raises NoPost, then BadNumber."""
    if not is_post(instance, post):
        raise NoPost(post)
    if not is_within(capacity, 1, BIG):
        raise BadNumber(capacity)
    return with_item(instance[0], post, capacity), instance[1]


def with_count(instance, group, count):
    """The instance with this count of a group. Raises NoGroup, then BadNumber."""
    if not is_group(instance, group):
        raise NoGroup(group)
    if not is_within(count, 1, BIG):
        raise BadNumber(count)
    return instance[0], with_item(instance[1], group, (instance[1][group][0], count))


def with_list(instance, group, posts):
    """The instance with this list of a group. Raises NoGroup, then BadList."""
    if not is_group(instance, group):
        raise NoGroup(group)
    if not is_post_list(posts, len(instance[0])):
        raise BadList(posts)
    return instance[0], with_item(instance[1], group, (posts, instance[1][group][1]))


def trim_lists(instance):
    """The instance in which each list ends with the post of its reserve option, if that is a post."""
    groups = []
    for group, (posts, count) in enumerate(instance[1]):
        # A list that is no longer than its reserve option stays as it is.
        groups.append((posts[:reserve_option(instance, group) + 1], count))
    return instance[0], tuple(groups)


def scale_instance(instance, factor):
    """The instance with factor times as many places and applicants. Raises TooGreat beyond BIG."""
    capacities = tuple([capacity * factor for capacity in instance[0]])
    groups = tuple([(posts, count * factor) for posts, count in instance[1]])
    if max(capacities) > BIG or greatest_count(groups) > BIG:
        raise TooGreat()
    return capacities, groups


def greatest_count(groups):
    """The greatest count of the groups."""
    return max([count for posts, count in groups])


def split_group(instance, group, count):
    """The instance in which all but count applicants of a group are a new last group.

    Raises NoGroup, then BadNumber, then TooMany.
    """
    if not is_group(instance, group):
        raise NoGroup(group)
    posts, total = instance[1][group]
    if not is_within(count, 1, total - 1):
        raise BadNumber(count)
    if len(instance[1]) >= GROUPS:
        raise TooMany(GROUPS)
    return instance[0], with_item(instance[1], group, (posts, count)) + ((posts, total - count),)


def merge_groups(instance):
    """The instance in which groups with the same list are one group. Raises TooGreat beyond BIG."""
    counts = {}
    for posts, count in instance[1]:
        counts[posts] = counts.get(posts, 0) + count
    groups = tuple(counts.items())
    if greatest_count(groups) > BIG:
        raise TooGreat()
    return instance[0], groups


def relabel_posts(instance, order):
    """The instance in which the post order[k] has the number k."""
    capacities = tuple([instance[0][post] for post in order])
    groups = [(tuple([order.index(post) for post in posts]), count) for posts, count in instance[1]]
    return capacities, tuple(groups)


def join_instances(first, second):
    """The instance with the posts and groups of both. Raises TooMany(POSTS), then TooMany(GROUPS)."""
    if len(first[0]) + len(second[0]) > POSTS:
        raise TooMany(POSTS)
    if len(first[1]) + len(second[1]) > GROUPS:
        raise TooMany(GROUPS)
    shift = len(first[0])
    groups = [(tuple([post + shift for post in posts]), count) for posts, count in second[1]]
    return first[0] + second[0], first[1] + tuple(groups)


def with_group(instance, posts, count):
    """The instance with a new last group. Raises BadList, then BadNumber, then TooMany."""
    if not is_post_list(posts, len(instance[0])):
        raise BadList(posts)
    if not is_within(count, 1, BIG):
        raise BadNumber(count)
    if len(instance[1]) >= GROUPS:
        raise TooMany(GROUPS)
    return instance[0], instance[1] + ((posts, count),)


def without_group(instance, group):
    """The instance without a group. Raises NoGroup, then LastOne."""
    if not is_group(instance, group):
        raise NoGroup(group)
    if len(instance[1]) == 1:
        raise LastOne()
    return instance[0], instance[1][:group] + instance[1][group + 1:]


def with_post(instance, capacity):
    """The instance with a new last post. Raises BadNumber, then TooMany."""
    if not is_within(capacity, 1, BIG):
        raise BadNumber(capacity)
    if len(instance[0]) >= POSTS:
        raise TooMany(POSTS)
    return instance[0] + (capacity,), instance[1]


def without_post(instance, post):
    """The instance without a post, also in all lists. Raises NoPost, then LastOne."""
    if not is_post(instance, post):
        raise NoPost(post)
    if len(instance[0]) == 1:
        raise LastOne()
    groups = [(posts_without(posts, post), count) for posts, count in instance[1]]
    return instance[0][:post] + instance[0][post + 1:], tuple(groups)


def posts_without(posts, gone):
    """The list without a post; the posts behind that one have their numbers decreased by 1."""
    return tuple([post - 1 if post > gone else post for post in posts if post != gone])
