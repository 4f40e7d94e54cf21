"""The errors of the package."""


class VoteError(ValueError):
    """The base of all errors but those of a number that names nothing."""


class NoChange(VoteError):
    """A value is not a change of the assignment."""


class BadPosts(VoteError):
    """A value is not a tuple of posts as a shortage needs it."""

    def __init__(self, value):
        self.value = value


class Beaten(VoteError):
    """An assignment is not unbeaten."""


class BadVector(VoteError):
    """A value is not a vector of the instance."""


class NoUnbeaten(VoteError):
    """The instance has no unbeaten assignment; the fields are a shortage."""

    def __init__(self, crowded, reserves):
        self.crowded = crowded
        self.reserves = reserves


class BadPrices(VoteError):
    """A value is not vector prices of the instance."""


class BadNumber(VoteError):
    """A value is not an integer within its limits."""

    def __init__(self, value):
        self.value = value


class BadList(VoteError):
    """A value is not a tuple of different post numbers."""

    def __init__(self, value):
        self.value = value


class TooGreat(VoteError):
    """A capacity or a count would be greater than BIG."""


class TooMany(VoteError):
    """There are, or would be, more than limit."""

    def __init__(self, limit):
        self.limit = limit


class BadInstance(VoteError):
    """A value is not an instance; the fields are what instance_error returns."""

    def __init__(self, path, reason):
        self.path = path
        self.reason = reason


class TooManyEdits(VoteError):
    """A bench has no room for another edit."""


class LastOne(VoteError):
    """The only group or the only post cannot be removed."""


class NothingToUndo(VoteError):
    """No edit of the bench stands."""


class BadEdits(VoteError):
    """A value is not a list or tuple of edits, or has too many of them."""


class BadEdit(VoteError):
    """The item at index is not an edit."""

    def __init__(self, index):
        self.index = index


class Rejected(VoteError):
    """The edit at index raised an error."""

    def __init__(self, index):
        self.index = index


class Busy(VoteError):
    """The bench is in the middle of a run."""


class BadText(VoteError):
    """The line or word at index is wrong; index is None if there is no text."""

    def __init__(self, index):
        self.index = index


class NoPost(LookupError):
    """A value is not the number of a post."""

    def __init__(self, value):
        self.value = value


class NoGroup(LookupError):
    """A value is not the number of a group."""

    def __init__(self, value):
        self.value = value


class NoVersion(LookupError):
    """A value is not a version of the bench."""

    def __init__(self, value):
        self.value = value
