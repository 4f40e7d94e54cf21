"""Texts: instances and assignments as texts, and back."""

from postvote.assignments import is_assignment
from postvote.bounds import GROUPS
from postvote.checks import is_split
from postvote.errors import BadText
from postvote.instances import groups_error, posts_error

# More digits than any number of an instance has, and few enough for int on every text.
LONGEST = 30


def instance_text(instance):
    """The text of an instance."""
    posts, groups = instance
    lines = [" ".join(["posts"] + [str(capacity) for capacity in posts])]
    for ranked, count in groups:
        lines.append(" ".join([f"{count}:"] + [str(post) for post in ranked]))
    return "\n".join(lines)


def assignment_text(assignment):
    """The text of an assignment."""
    return " ".join([joined_numbers(share) for share in assignment])


def joined_numbers(numbers):
    """The numbers with a comma between two."""
    return ",".join([str(number) for number in numbers])


def parse_number(text, digits):
    """The integer with this text, or None if the text is not plain or has more than so many digits."""
    if not (text.isascii() and text.isdigit()) or len(text) > digits:
        return None
    if text.startswith("0") and len(text) > 1:
        return None
    return int(text)


def parse_numbers(words):
    """A tuple with the integer of each word, None for a word that is not one."""
    return tuple([parse_number(word, LONGEST) for word in words])


def parse_instance(text):
    """The instance with this text. Raises BadText for any other value."""
    if not isinstance(text, str):
        raise BadText(None)
    lines = text.split("\n")
    posts = parse_posts(lines[0])
    if posts is None:
        raise BadText(0)
    groups = []
    for index in range(1, len(lines)):
        group = parse_group(lines[index], len(posts))
        if group is None or index > GROUPS:
            raise BadText(index)
        groups.append(group)
    if len(groups) == 0:
        raise BadText(len(lines))
    return posts, tuple(groups)


def parse_posts(line):
    """The capacities of the first line of an instance, or None."""
    words = line.split(" ")
    posts = parse_numbers(words[1:])
    if words[0] != "posts" or posts_error(posts) is not None:
        return None
    return posts


def parse_group(line, post_count):
    """The group of a line of an instance with so many posts, or None."""
    words = line.split(" ")
    head = words[0]
    if not head.endswith(":"):
        return None
    group = (parse_numbers(words[1:]), parse_number(head[:-1], LONGEST))
    return group if groups_error((group,), post_count) is None else None


def parse_assignment(instance, text):
    """The assignment of the instance with this text. Raises BadText for any other value."""
    if not isinstance(text, str):
        raise BadText(None)
    words = text.split(" ")
    shares = []
    for index, word in enumerate(words):
        share = parse_numbers(word.split(","))
        if index >= len(instance[1]) or not is_share(instance, index, share):
            raise BadText(index)
        shares.append(share)
    # Right words, but too few of them, or more applicants at a post than it has places.
    if not is_assignment(instance, tuple(shares)):
        raise BadText(len(words))
    return tuple(shares)


def is_share(instance, group, share):
    """Whether a tuple has a number for each option of a group, and they add up to its count."""
    posts, count = instance[1][group]
    return is_split(share, len(posts) + 1, count)
