"""Sizes: how many cells there may be, and how many places go with them."""

from slotbook.keys import is_number

LEAST = 8
GREATEST = 4096


def is_size(thing):
    """Whether the thing, which may be anything, is a size."""
    # A power of two has a single bit, which is lost when it meets the number below.
    return is_number(thing) and LEAST <= thing <= GREATEST and thing & (thing - 1) == 0


def room(size):
    """How many places a row may have beside cells of this size."""
    return 2 * size // 3


def size_for(many):
    """The least size that is at least three times as many."""
    size = LEAST
    while size < 3 * many:
        size = 2 * size
    return size
