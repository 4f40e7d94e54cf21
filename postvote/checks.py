"""Checks of plain values, shared by all functions that accept any value."""


def is_whole(value):
    """Whether value is an integer. Python counts a bool as an int; the package does not."""
    return isinstance(value, int) and not isinstance(value, bool)


def is_within(value, least, most):
    """Whether value is an integer from least to most."""
    return is_whole(value) and least <= value <= most


def is_tuple_of(value, least, most):
    """Whether value is a tuple of at least least and at most most items."""
    return isinstance(value, tuple) and least <= len(value) <= most


def is_split(value, size, total):
    """Whether value is a tuple of size integers from 0 on that add up to total."""
    if not is_tuple_of(value, size, size):
        return False
    return all([is_within(number, 0, total) for number in value]) and sum(value) == total
