"""Instances, assignments and wrong values for the tests, always the same ones."""

import random

BIG = 10 ** 12

ODD_VALUES = (
    None, True, False, -1, 0, 1, 2, 5, 6, 7, BIG, BIG + 1, -BIG, 10 ** 29,
    "", "0", "instance", "posts 1 1\n2: 0 1", (), (0,), (1,), (0, 0), (0, 1), ((),), ((0,), 1),
    [], [0], [1, 1], [(0,), 1], [[1], [[[0], 1]]], {}, {"posts": (1,)}, {"a": [True, None]},
)


WORDS = ("set_capacity", "set_count", "set_list", "add_group", "remove_group", "add_post", "remove_post")


def generator(seed):
    return random.Random(seed)


def some_count(rng, most):
    return rng.choice((1, 2, 3, rng.randint(1, most), most))


def some_list(rng, post_count):
    return tuple(rng.sample(range(post_count), rng.randint(0, post_count)))


def some_groups(rng, post_count, most):
    lists = [some_list(rng, post_count) for at in range(rng.randint(1, 10))]
    # Equal lists are allowed, and long lists hardly ever meet by chance.
    return tuple((rng.choice(lists), some_count(rng, most)) for at in lists)


def some_instance(rng, most=4):
    post_count = rng.randint(1, 6)
    posts = tuple(some_count(rng, most) for at in range(post_count))
    return posts, some_groups(rng, post_count, most)


def near_instance(rng, most=4):
    """An instance whose capacities are one less than the demand, equal to it, or one more."""
    post_count = rng.randint(1, 6)
    groups = some_groups(rng, post_count, most)
    posts = []
    for post in range(post_count):
        demand = sum(count for ranked, count in groups if ranked[:1] == (post,))
        posts.append(min(BIG, max(1, demand + rng.choice((-1, 0, 1)))))
    return tuple(posts), groups


def small_instance(rng, most=5):
    """An instance of at most so many applicants: all that they can do can be tried."""
    post_count = rng.randint(1, 3)
    posts = tuple(rng.choice((1, 1, 2, 3)) for at in range(post_count))
    lists = [some_list(rng, post_count), tuple(range(post_count))]
    groups = []
    left = rng.randint(1, most)
    while left > 0:
        count = rng.randint(1, left)
        groups.append((rng.choice((*lists, some_list(rng, post_count))), count))
        left -= count
    return posts, tuple(groups)


def wide_instance(rng, most=4):
    """An instance of the greatest size, in which every list has all posts."""
    posts = tuple(some_count(rng, most) for at in range(6))
    return posts, tuple((tuple(rng.sample(range(6), 6)), some_count(rng, most)) for at in range(10))


def crowded_instance(rng, most=4):
    """An instance with crowded posts and free places, which often has several vectors."""
    order = rng.sample(range(6), rng.randint(2, 6))
    order = [sorted(order).index(post) for post in order]
    homes = order[:rng.randint(1, len(order) - 1)]
    groups = []
    for at in range(rng.randint(1, 10)):
        posts = rng.sample(homes, 1) + rng.sample(order[len(homes):], rng.randint(0, len(order) - len(homes)))
        if rng.random() < 0.3 and len(homes) > 1:
            posts.insert(1, rng.choice([post for post in homes if post != posts[0]]))
        groups.append((tuple(posts), some_count(rng, most)))
    posts = [rng.randint(1, most) for post in order]
    for post in homes:
        demand = sum(count for ranked, count in groups if ranked[0] == post)
        posts[post] = min(BIG, max(1, demand - rng.choice((1, 2, demand // 3, demand // 2))))
    return tuple(posts), tuple(groups)


def many_crowded(rng, turns):
    """Crowded instances with small numbers and great ones, and instances of all sorts."""
    for turn in range(turns):
        make = rng.choice((crowded_instance, crowded_instance, crowded_instance, some_instance, near_instance))
        yield make(rng, rng.choice((2, 4, 30, BIG)))


def many_instances(rng, turns):
    """Instances of all sorts, with small numbers and great ones."""
    for turn in range(turns):
        make = rng.choice((some_instance, some_instance, near_instance, near_instance, wide_instance))
        yield make(rng, rng.choice((2, 4, 30, BIG)))


def some_assignment(rng, instance):
    """Fills the options of each group in a random order, as far as there is room."""
    room = list(instance[0])
    shares = []
    for posts, count in instance[1]:
        share = [0] * (len(posts) + 1)
        for option in rng.sample(range(len(posts)), len(posts)):
            number = min(room[posts[option]], count - sum(share))
            share[option] = rng.choice((0, number, rng.randint(0, number)))
            room[posts[option]] -= share[option]
        share[-1] = count - sum(share)
        shares.append(tuple(share))
    return tuple(shares)


def small_assignments(instance):
    """All assignments, found by giving one applicant after the other each option in turn."""
    options = [posts for posts, count in instance[1] for applicant in range(count)]
    owners = [number for number, group in enumerate(instance[1]) for applicant in range(group[1])]
    found = {tuple((0,) * (len(posts) + 1) for posts, count in instance[1])}
    for posts, owner in zip(options, owners):
        found = {
            replaced(table, (owner, option), table[owner][option] + 1)
            for table in found
            for option in range(len(posts) + 1)
            if option == len(posts) or places_left(instance, table, posts[option]) > 0
        }
    return found


def places_left(instance, table, post):
    taken = 0
    for (posts, count), share in zip(instance[1], table):
        if post in posts:
            taken += share[posts.index(post)]
    return instance[0][post] - taken


def some_change(rng, assignment, target):
    """A change that leads from one assignment to another, filled in a random order."""
    tables = []
    for share, wanted in zip(assignment, target):
        size = len(share)
        table = [[0] * size for option in range(size)]
        have, need = list(share), list(wanted)
        for start, end in rng.sample([(i, j) for i in range(size) for j in range(size)], size * size):
            number = min(have[start], need[end])
            table[start][end] = number
            have[start] -= number
            need[end] -= number
        tables.append(tuple(map(tuple, table)))
    return tuple(tables)


def small_changes(instance, assignment):
    """All changes with their surplus, found by giving one applicant after the other each option in turn."""
    found = {tuple(((0,) * len(share),) * len(share) for share in assignment): (0, (0,) * len(instance[0]))}
    for group, share in enumerate(assignment):
        posts = instance[1][group][0]
        for start in [option for option, number in enumerate(share) for applicant in range(number)]:
            found = {
                replaced(tables, (group, start, end), tables[group][start][end] + 1):
                    (surplus + (start > end) - (start < end), with_one_more(loads, posts[end:end + 1]))
                for tables, (surplus, loads) in found.items()
                for end in range(len(share))
            }
    return {
        tables: surplus
        for tables, (surplus, loads) in found.items()
        if all(load <= capacity for load, capacity in zip(loads, instance[0]))
    }


def with_one_more(loads, posts):
    return tuple(load + (post in posts) for post, load in enumerate(loads))


def some_edit(rng, instance, most=4):
    """An edit of the instance; now and then a wrong one."""
    posts, groups = len(instance[0]), len(instance[1])
    post = rng.randrange(posts + (rng.random() < 0.1))
    group = rng.randrange(groups + (rng.random() < 0.1))
    number = rng.choice((1, most, rng.randint(1, most), rng.randint(1, most), 0 if rng.random() < 0.2 else 2))
    ranked = some_list(rng, posts + (rng.random() < 0.1))
    return rng.choice((
        ("set_capacity", post, number), ("set_count", group, number), ("set_list", group, ranked),
        ("add_group", ranked, number), ("remove_group", group), ("add_post", number), ("remove_post", post),
    ))


def paths(value):
    """The paths of all parts of nested tuples, the whole first."""
    found = [()]
    if isinstance(value, tuple):
        for at, part in enumerate(value):
            found.extend((at,) + path for path in paths(part))
    return found


def part_at(value, path):
    for at in path:
        value = value[at]
    return value


def replaced(value, path, part):
    if path == ():
        return part
    at = path[0]
    return value[:at] + (replaced(value[at], path[1:], part),) + value[at + 1:]


def spoiled(rng, value):
    """The value with one part replaced, removed, repeated, or turned into another kind."""
    path = rng.choice(paths(value))
    part = part_at(value, path)
    ways = [rng.choice(ODD_VALUES)]
    if isinstance(part, tuple):
        ways.append(list(part))
        if part:
            at = rng.randrange(len(part))
            ways.append(part[:at] + part[at + 1:])
            ways.append(part[:at] + part[at:at + 1] + part[at:])
    elif isinstance(part, int):
        ways.extend((part + 1, part - 1, -part, bool(part), str(part)))
    return replaced(value, path, rng.choice(ways))


def plain(value):
    """The kinds of all parts, since True equals 1 and False equals 0."""
    if isinstance(value, (tuple, list)):
        return type(value), [plain(part) for part in value]
    return type(value), value
