"""Listing: all assignments of an instance."""

from postvote.bounds import LISTED
from postvote.errors import TooMany
from postvote.transforms import with_item


def all_assignments(instance, *, limit=LISTED):
    """The ascending tuple of all assignments. Raises TooMany if there are more than limit."""
    begun = [((), instance[0])]
    for posts, count in instance[1]:
        parts = [(done, (), room) for done, room in begun]
        for post in posts + (None,):
            parts = continued_shares(parts, post, count, limit)
        begun = [(done + (share,), room) for done, share, room in parts]
    return tuple([done for done, room in begun])


def continued_shares(parts, post, count, limit):
    """All beginnings of assignments that are longer by the number of one option; post is None for no post.

    A part is a tuple of the finished groups, the beginning of the next one, and the places that are left. Each
    leads to an assignment, since there is always room at no post. So it raises TooMany beyond limit at once.
    """
    longer = []
    for done, share, room in parts:
        rest = count - sum(share)
        least, most = (rest, rest) if post is None else (0, min(rest, room[post]))
        for number in range(least, most + 1):
            if len(longer) >= limit:
                raise TooMany(limit)
            left = room if post is None else with_item(room, post, room[post] - number)
            longer.append((done, share + (number,), left))
    return longer
