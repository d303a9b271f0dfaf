"""Stamps: the whole number by which a key is looked for."""

TURN = 2147483647


def stamp(key):
    """The stamp of a key, from 0 to TURN - 1."""
    if isinstance(key, str):
        return text_stamp(key)
    if isinstance(key, tuple):
        return tuple_stamp(key)
    return key % TURN


def text_stamp(text):
    """The stamp of a text, reckoned sign by sign."""
    reckoned = 7
    for sign in text:
        reckoned = (31 * reckoned + ord(sign)) % TURN
    return reckoned


def tuple_stamp(parts):
    """The stamp of a tuple, reckoned part by part."""
    reckoned = 11
    for part in parts:
        reckoned = ((1000003 * reckoned) ^ stamp(part)) % TURN
    return reckoned
