"""Integers among Python objects of any kind."""


def is_whole(thing, least, most):
    """Whether any Python object is an integer within bounds; True and False are none."""
    return type(thing) is int and least <= thing <= most
