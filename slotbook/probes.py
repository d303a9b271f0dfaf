"""Probes: the slots at which a stamp is looked for, one by one."""


def stride(stamp):
    """How far each probe of a stamp lies behind the one ahead of it."""
    # The lowest bit makes an even number one more and leaves an odd one. Sizes are powers of two, so with an odd
    # stride the probes come to each slot.
    return (stamp // 32) | 1


def probe(stamp, size, count):
    """The slot that is come to at this count."""
    return (stamp + count * stride(stamp)) % size


def probes(stamp, size):
    """All probes of a stamp, by rising counts."""
    return [probe(stamp, size, count) for count in range(size)]


def when(stamp, size, slot):
    """The count at which a slot is come to."""
    # By its rest, so that a number beyond the last slot is not refused.
    return probes(stamp, size).index(slot % size)
