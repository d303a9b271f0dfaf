"""Keys: what is one, and what is none."""

from slotbook.errors import NoKey

MOST_SIGNS = 60
MOST_PARTS = 6
DEEPEST = 3


def is_key(thing):
    """Whether the thing, which may be anything, is a key."""
    return is_part(thing, DEEPEST)


def checked(thing):
    """The thing itself where it is a key; else refused with NoKey."""
    if not is_key(thing):
        # The thing is not shown in these words: not everything can be written out.
        raise NoKey("this is no key")
    return thing


def is_part(thing, levels):
    """Whether the thing is a key that is at most so many levels deep."""
    if is_number(thing):
        return -10 ** 60 < thing < 10 ** 60
    if isinstance(thing, str):
        return len(thing) <= MOST_SIGNS
    if isinstance(thing, tuple):
        return levels > 0 and are_parts(thing, levels - 1)
    return False


def are_parts(things, levels):
    """Whether the things are few enough, and each is a key at most so many levels deep."""
    # Counted first, so that a long tuple is not walked in vain.
    return len(things) <= MOST_PARTS and all([is_part(thing, levels) for thing in things])


def is_number(thing):
    """Whether the thing is a whole number; a truth is none, though Python counts it as an int."""
    return isinstance(thing, int) and not isinstance(thing, bool)
