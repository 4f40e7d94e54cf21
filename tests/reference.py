"""What DOC.md says, written down once more, apart from the program and as plainly as possible."""

import itertools

from tests.support import BIG


def wishes(instance):
    """How many applicants rank each post first."""
    found = [0] * len(instance[0])
    for posts, count in instance[1]:
        if posts:
            found[posts[0]] += count
    return found


def reserve(instance, posts):
    """The reserve option of a list that is not empty."""
    wanted = wishes(instance)
    for option, post in enumerate(posts):
        if option and wanted[post] < instance[0][post]:
            return option
    return len(posts)


def both_conditions(instance, assignment):
    """The two conditions of point 10, applicant by applicant of each sort."""
    firsts = [0] * len(instance[0])
    for (posts, count), share in zip(instance[1], assignment):
        if posts:
            if share[0] + share[reserve(instance, posts)] != count:
                return False
            firsts[posts[0]] += share[0]
    return firsts == [min(pair) for pair in zip(wishes(instance), instance[0])]


def sorted_out(instance):
    """The crowded posts, and the posts that are not claimed."""
    pairs = list(zip(wishes(instance), instance[0]))
    crowded = tuple(post for post, (wanted, places) in enumerate(pairs) if wanted > places)
    return crowded, tuple(post for post, (wanted, places) in enumerate(pairs) if wanted < places)


def subsets(posts):
    return [part for size in range(len(posts) + 1) for part in itertools.combinations(posts, size)]


def all_pairs(instance):
    crowded, unclaimed = sorted_out(instance)
    return itertools.product(subsets(crowded), subsets(unclaimed))


def counted_shortfall(instance, crowded, reserves):
    """Those who cannot have their first post, minus those with another way out, minus the places."""
    capacities, groups = instance
    wanted = wishes(instance)
    total = sum(wanted[post] - capacities[post] for post in crowded)
    total += sum(wanted[post] - capacities[post] for post in reserves)
    for posts, count in groups:
        if posts and posts[0] in crowded:
            fallback = (*posts, None)[reserve(instance, posts)]
            if fallback is None or fallback not in reserves:
                total -= count
    return total


def greatest_shortfall(instance):
    return max(counted_shortfall(instance, *pair) for pair in all_pairs(instance))


def fallback(instance, posts):
    """The post of the reserve option of a list, or None."""
    return (*posts, None)[reserve(instance, posts)] if posts else None


def right_vector(instance, value):
    """Whether value is a vector, read off DOC.md condition by condition."""
    groups = instance[1]
    if type(value) is not tuple or len(value) != len(groups) or {type(number) for number in value} != {int}:
        return False
    if not all(number in range(count + 1) for (posts, count), number in zip(groups, value)):
        return False
    crowded, unclaimed = sorted_out(instance)
    if any(number for (posts, count), number in zip(groups, value) if posts[:1] == () or posts[0] not in crowded):
        return False
    wanted = wishes(instance)
    for post in crowded:
        moved = sum(number for (posts, count), number in zip(groups, value) if posts[:1] == (post,))
        if moved != wanted[post] - instance[0][post]:
            return False
    for post in unclaimed:
        taken = sum(number for (posts, count), number in zip(groups, value) if fallback(instance, posts) == post)
        if taken > instance[0][post] - wanted[post]:
            return False
    return True


def tuple_count(instance):
    """How many tuples there are with an integer from 0 to the count for each group."""
    total = 1
    for posts, count in instance[1]:
        total *= count + 1
    return total


def tried_vectors(instance):
    """All vectors in ascending order, found by trying all tuples."""
    tuples = itertools.product(*[range(count + 1) for posts, count in instance[1]])
    return [one for one in tuples if right_vector(instance, one)]


def right_number(value, most=BIG):
    return type(value) is int and 1 <= value <= most


def right_index(value, size):
    return type(value) is int and 0 <= value < size


def right_list(value, size):
    if type(value) is not tuple or any(type(post) is not int for post in value):
        return False
    return all(0 <= post < size for post in value) and len(set(value)) == len(value)


def edit_error(instance, edit):
    """The name and the fields of the first error that an edit of the instance raises, or None."""
    posts, groups = [len(part) for part in instance]
    word, one, two = (*edit, None)[:3]
    faults = {
        "set_capacity": (("NoPost", right_index(one, posts), one), ("BadNumber", right_number(two), two)),
        "set_count": (("NoGroup", right_index(one, groups), one), ("BadNumber", right_number(two), two)),
        "set_list": (("NoGroup", right_index(one, groups), one), ("BadList", right_list(two, posts), two)),
        "add_group": (
            ("BadList", right_list(one, posts), one), ("BadNumber", right_number(two), two), ("TooMany", groups < 10, 10),
        ),
        "remove_group": (("NoGroup", right_index(one, groups), one), ("LastOne", groups > 1)),
        "add_post": (("BadNumber", right_number(one), one), ("TooMany", posts < 6, 6)),
        "remove_post": (("NoPost", right_index(one, posts), one), ("LastOne", posts > 1)),
    }
    for name, right, *fields in faults[word]:
        if not right:
            return name, fields
    return None


def edit_result(instance, edit):
    """The instance after a right edit."""
    posts, groups = list(instance[0]), [list(group) for group in instance[1]]
    word, *values = edit
    if word == "set_capacity":
        posts[values[0]] = values[1]
    elif word == "set_count":
        groups[values[0]][1] = values[1]
    elif word == "set_list":
        groups[values[0]][0] = values[1]
    elif word == "add_group":
        groups.append(values)
    elif word == "remove_group":
        groups.pop(values[0])
    elif word == "add_post":
        posts.append(values[0])
    else:
        posts.pop(values[0])
        numbers = [post for post in range(len(posts) + 1) if post != values[0]]
        for group in groups:
            group[0] = tuple(numbers.index(post) for post in group[0] if post in numbers)
    return tuple(posts), tuple(tuple(group) for group in groups)
