"""Judges of any object: integers, and tuples by how long they are."""


def is_integer(thing):
    """Whether thing is an integer; True and False are none."""
    return isinstance(thing, int) and not isinstance(thing, bool)


def is_within(thing, low, high):
    """Whether thing is an integer from low to high."""
    return is_integer(thing) and low <= thing <= high


def is_row(thing, low, high):
    """Whether thing is a tuple with from low to high entries."""
    return isinstance(thing, tuple) and low <= len(thing) <= high
