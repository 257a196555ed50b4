"""Whole numbers: an int that is no truth."""


def is_whole(thing):
    """Tell whether a thing is a whole number."""
    return isinstance(thing, int) and not isinstance(thing, bool)


def is_within(thing, least, most):
    """Tell whether a thing is a whole number from least to most."""
    return is_whole(thing) and least <= thing <= most
