"""Assignments: how many applicants of each group have each of its options."""

from postvote.checks import is_split, is_tuple_of


def is_assignment(instance, value):
    """Whether any value is an assignment of the instance."""
    capacities, groups = instance
    if not is_tuple_of(value, len(groups), len(groups)):
        return False
    if not all([is_split(share, len(posts) + 1, count) for (posts, count), share in zip(groups, value)]):
        return False
    return all([load <= capacity for load, capacity in zip(post_loads(instance, value), capacities)])


def post_loads(instance, assignment):
    """The number of applicants at each post."""
    loads = [0] * len(instance[0])
    for group, share in zip(instance[1], assignment):
        # The list ends before the share does: its last number is at no post.
        for post, number in zip(group[0], share):
            loads[post] += number
    return tuple(loads)


def unassigned_count(instance, assignment):
    """The number of applicants without a post."""
    return sum([share[-1] for share in assignment])


def empty_assignment(instance):
    """The assignment in which no applicant has a post."""
    return tuple([(0,) * len(posts) + (count,) for posts, count in instance[1]])
