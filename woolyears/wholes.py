"""Whole numbers, and tuples of them, known among things of anything."""


def is_whole(thing):
    # Python counts True and False as ints; here they are no numbers.
    return isinstance(thing, int) and not isinstance(thing, bool)


def is_whole_from(thing, least, most):
    return is_whole(thing) and least <= thing <= most


def is_tuple_of(thing, fewest, most):
    """Whether it is a tuple of no fewer and no more things than that."""
    return isinstance(thing, tuple) and fewest <= len(thing) <= most


def are_wholes(thing, many):
    """Whether it is a tuple of just so many whole numbers."""
    return is_tuple_of(thing, many, many) and all([is_whole(part) for part in thing])
