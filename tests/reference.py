"""What DOC.md says, written down once more, apart from the program and as plainly as possible."""

import itertools


def wishes(instance):
    """How many applicants rank each post first."""
    found = [0] * len(instance[0])
    for posts, count in instance[1]:
        if posts:
            found[posts[0]] += count
    return found


def reserve(instance, posts):
    """The reserve option of a list that is not empty."""
    wanted = wishes(instance)
    for option, post in enumerate(posts):
        if option and wanted[post] < instance[0][post]:
            return option
    return len(posts)


def both_conditions(instance, assignment):
    """The two conditions of point 10, applicant by applicant of each sort."""
    firsts = [0] * len(instance[0])
    for (posts, count), share in zip(instance[1], assignment):
        if posts:
            if share[0] + share[reserve(instance, posts)] != count:
                return False
            firsts[posts[0]] += share[0]
    return firsts == [min(pair) for pair in zip(wishes(instance), instance[0])]


def sorted_out(instance):
    """The crowded posts, and the posts that are not claimed."""
    pairs = list(zip(wishes(instance), instance[0]))
    crowded = tuple(post for post, (wanted, places) in enumerate(pairs) if wanted > places)
    return crowded, tuple(post for post, (wanted, places) in enumerate(pairs) if wanted < places)


def subsets(posts):
    return [part for size in range(len(posts) + 1) for part in itertools.combinations(posts, size)]


def all_pairs(instance):
    crowded, unclaimed = sorted_out(instance)
    return itertools.product(subsets(crowded), subsets(unclaimed))


def counted_shortfall(instance, crowded, reserves):
    """Those who cannot have their first post, minus those with another way out, minus the places."""
    capacities, groups = instance
    wanted = wishes(instance)
    total = sum(wanted[post] - capacities[post] for post in crowded)
    total += sum(wanted[post] - capacities[post] for post in reserves)
    for posts, count in groups:
        if posts and posts[0] in crowded:
            fallback = (*posts, None)[reserve(instance, posts)]
            if fallback is None or fallback not in reserves:
                total -= count
    return total


def greatest_shortfall(instance):
    return max(counted_shortfall(instance, *pair) for pair in all_pairs(instance))


def fallback(instance, posts):
    """The post of the reserve option of a list, or None."""
    return (*posts, None)[reserve(instance, posts)] if posts else None


def right_vector(instance, value):
    """Whether value is a vector, read off DOC.md condition by condition."""
    groups = instance[1]
    if type(value) is not tuple or len(value) != len(groups) or {type(number) for number in value} != {int}:
        return False
    if not all(number in range(count + 1) for (posts, count), number in zip(groups, value)):
        return False
    crowded, unclaimed = sorted_out(instance)
    if any(number for (posts, count), number in zip(groups, value) if posts[:1] == () or posts[0] not in crowded):
        return False
    wanted = wishes(instance)
    for post in crowded:
        moved = sum(number for (posts, count), number in zip(groups, value) if posts[:1] == (post,))
        if moved != wanted[post] - instance[0][post]:
            return False
    for post in unclaimed:
        taken = sum(number for (posts, count), number in zip(groups, value) if fallback(instance, posts) == post)
        if taken > instance[0][post] - wanted[post]:
            return False
    return True


def tuple_count(instance):
    """How many tuples there are with an integer from 0 to the count for each group."""
    total = 1
    for posts, count in instance[1]:
        total *= count + 1
    return total


def tried_vectors(instance):
    """All vectors in ascending order, found by trying all tuples."""
    tuples = itertools.product(*[range(count + 1) for posts, count in instance[1]])
    return [one for one in tuples if right_vector(instance, one)]
