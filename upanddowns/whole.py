"""Whole numbers, and the refusal of what is none."""

from upanddowns.errors import NoNumber


def is_whole(thing):
    """Whether a thing is a whole number."""
    # True and False are ints to Python, but no numbers here.
    return isinstance(thing, int) and not isinstance(thing, bool)


def is_pair(thing):
    """Whether a thing is a tuple of two whole numbers."""
    if not isinstance(thing, tuple) or len(thing) != 2:
        return False
    return all(is_whole(number) for number in thing)


def need_number(thing, least, most):
    """Refuse what is no whole number from least to most."""
    if not is_whole(thing):
        raise NoNumber("this is no whole number")
    if thing < least or thing > most:
        raise NoNumber(f"the number is not from {least} to {most}")
