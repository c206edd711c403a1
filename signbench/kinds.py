"""What several modules ask of any thing: whole numbers, rows of them, a copy of its own."""

LAST_SOUND = 39
LAST_SIGN = 1039


def is_number(thing):
    """Whether a thing is a whole number."""
    # Python counts True and False among its ints; here they are no numbers.
    return isinstance(thing, int) and not isinstance(thing, bool)


def is_whole(thing, low, high):
    """Whether a thing is a whole number from low to high."""
    return is_number(thing) and low <= thing <= high


def is_row(thing, fewest, most, high):
    """Whether a thing is a tuple of fewest to most whole numbers, each from 0 to high."""
    # The length is asked first, so that a long row is not walked in vain.
    if not isinstance(thing, tuple) or not fewest <= len(thing) <= most:
        return False
    return all([is_whole(part, 0, high) for part in thing])


def copied(thing):
    """The thing with new lists at all places, so that nobody else can change it."""
    if isinstance(thing, list):
        return [copied(part) for part in thing]
    if isinstance(thing, tuple):
        return tuple([copied(part) for part in thing])
    return thing
