"""In how many ways some of several things are chosen."""


def choose(things, taken):
    """In how many ways so many of several things are taken, at most all of them."""
    found = 1
    for at in range(taken):
        # Nothing is left over: what is divided is at + 1 times the ways to take at + 1 things.
        found = found * (things - at) // (at + 1)
    return found
