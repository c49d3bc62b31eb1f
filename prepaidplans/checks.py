"""Tests of integers that all modules share."""


def is_whole(value):
    """Return whether any value is an integer; True and False are none."""
    return isinstance(value, int) and not isinstance(value, bool)


def is_between(value, low, high):
    """Return whether any value is an integer from low to high."""
    return is_whole(value) and low <= value <= high


def is_tick(value):
    """Return whether any value is an integer from 0."""
    return is_whole(value) and value >= 0
