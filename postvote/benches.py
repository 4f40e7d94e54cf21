"""Benches: instances that are edited step by step, and whose edits can be undone."""

from postvote.bounds import BATCH, EDITS
from postvote.checks import is_tuple_of, is_within
from postvote.errors import (
    BadEdit, BadEdits, BadInstance, Busy, NoGroup, NoPost, NothingToUndo, NoVersion, Rejected, TooManyEdits, VoteError,
)
from postvote.instances import instance_error
from postvote.transforms import (
    with_capacity, with_count, with_group, with_list, with_post, without_group, without_post,
)
from postvote.unbeaten import find_verdict
from postvote.vectors import first_vector

# How many items an edit has, the name of its method among them.
EDIT_SIZES = {
    "set_capacity": 3,
    "set_count": 3,
    "set_list": 3,
    "add_group": 3,
    "remove_group": 2,
    "add_post": 2,
    "remove_post": 2,
}


def is_edit(value):
    """Whether any value is a tuple of the name of an editing method and as many arguments as it takes."""
    if not is_tuple_of(value, 2, 3) or not isinstance(value[0], str):
        return False
    return EDIT_SIZES.get(value[0]) == len(value)


def edited(instance, edit):
    """The instance after an edit. Raises the errors of the edit."""
    word = edit[0]
    if word == "set_capacity":
        return with_capacity(instance, edit[1], edit[2])
    if word == "set_count":
        return with_count(instance, edit[1], edit[2])
    if word == "set_list":
        return with_list(instance, edit[1], edit[2])
    if word == "add_group":
        return with_group(instance, edit[1], edit[2])
    if word == "remove_group":
        return without_group(instance, edit[1])
    if word == "add_post":
        return with_post(instance, edit[1])
    return without_post(instance, edit[1])


def checked_batch(edits):
    """A copy of a batch of edits. Raises BadEdits, then BadEdit for the first item that is not an edit."""
    if not isinstance(edits, (list, tuple)) or len(edits) > BATCH:
        raise BadEdits()
    batch = tuple(edits)
    for index, edit in enumerate(batch):
        if not is_edit(edit):
            raise BadEdit(index)
    return batch


def summary(instance):
    """The numbers of posts, groups and applicants, in words."""
    applicants = sum([count for posts, count in instance[1]])
    return f"{len(instance[0])} posts, {len(instance[1])} groups, {applicants} applicants"


class Bench:
    """An instance with the edits that stand.

    states has the instance of each version, made the edits between them. Both are tuples that are replaced, not
    changed, so a run can put back what it found.
    """

    def __init__(self, instance):
        error = instance_error(instance)
        if error is not None:
            raise BadInstance(error[0], error[1])
        self.states = (instance,)
        self.made = ()
        self.stepping = False

    def set_capacity(self, post, capacity):
        """Gives a post another capacity. Returns the new version, as all editing methods do."""
        return self.edit(("set_capacity", post, capacity))

    def set_count(self, group, count):
        """Gives a group another count."""
        return self.edit(("set_count", group, count))

    def set_list(self, group, posts):
        """Gives a group another list."""
        return self.edit(("set_list", group, posts))

    def add_group(self, posts, count):
        """Adds a group as the last one."""
        return self.edit(("add_group", posts, count))

    def remove_group(self, group):
        """Removes a group."""
        return self.edit(("remove_group", group))

    def add_post(self, capacity):
        """Adds a post as the last one."""
        return self.edit(("add_post", capacity))

    def remove_post(self, post):
        """Removes a post, also from all lists."""
        return self.edit(("remove_post", post))

    def undo(self):
        """Removes the last edit that stands. Returns the new version."""
        self.check_idle()
        if len(self.made) == 0:
            raise NothingToUndo()
        self.states = self.states[:-1]
        self.made = self.made[:-1]
        return len(self.made)

    def run(self, edits, *, on_step=None):
        """Does all edits or none; calls on_step with this bench after each. Returns the new version."""
        self.check_idle()
        batch = checked_batch(edits)
        states, made = self.states, self.made
        try:
            for index, edit in enumerate(batch):
                self.run_edit(index, edit)
                if on_step is not None:
                    self.call_step(on_step)
            states, made = self.states, self.made
        finally:
            self.states, self.made = states, made
        return len(self.made)

    def check_idle(self):
        """Raises Busy while on_step runs."""
        if self.stepping:
            raise Busy()

    def edit(self, edit):
        """Does an edit unless on_step runs."""
        self.check_idle()
        return self.make(edit)

    def make(self, edit):
        """Does an edit and returns the new version. Raises TooManyEdits, then the errors of the edit."""
        if len(self.made) >= EDITS:
            raise TooManyEdits()
        self.states = self.states + (edited(self.states[-1], edit),)
        self.made = self.made + (edit,)
        return len(self.made)

    def run_edit(self, index, edit):
        """Does the edit at this index of a batch. Raises Rejected for any error of it."""
        try:
            self.make(edit)
        except (VoteError, NoPost, NoGroup):
            raise Rejected(index)

    def call_step(self, on_step):
        """Calls on_step, and keeps it from editing this bench."""
        self.stepping = True
        try:
            on_step(self)
        finally:
            self.stepping = False

    def state(self, version):
        """The instance of a version, or the current one for None. Raises NoVersion for any other value."""
        if version is None:
            return self.states[-1]
        if not is_within(version, 0, len(self.made)):
            raise NoVersion(version)
        return self.states[version]

    def instance(self, *, version=None):
        """The instance of a version, the current one by default."""
        return self.state(version)

    def verdict(self, *, version=None):
        """The verdict for the instance of a version."""
        return find_verdict(self.state(version))

    def vector(self, *, version=None):
        """The first vector of the instance of a version. Raises NoVersion, then NoUnbeaten."""
        return first_vector(self.state(version))

    def edits(self):
        """The edits that stand."""
        return self.made

    def words(self):
        """The word of the verdict for each version."""
        return tuple([find_verdict(state)[0] for state in self.states])

    def __len__(self):
        return len(self.made)

    def __str__(self):
        return f"{summary(self.states[-1])}, {len(self.made)} edits"

    def __eq__(self, other):
        return isinstance(other, Bench) and self.states[-1] == other.states[-1]
