"""The refusals: one class for each, all right under BookError."""


class BookError(ValueError):
    """Any refusal."""


class NoKey(BookError):
    """A thing was handed in as a key that is none."""


class NoSize(BookError):
    """A thing was handed in as a size that is none."""


class Full(BookError):
    """There is no room for one more place."""


class Lacking(BookError):
    """A key is asked for that is not there."""


class Broken(BookError):
    """A strict walk goes on behind a key's coming or going."""


class NoText(BookError):
    """A thing is not what some key is written as."""


class NoDeed(BookError):
    """A thing is no row that a desk is told."""


class NoName(BookError):
    """A name does not stand, or stands for another kind of thing."""


class Twice(BookError):
    """A thing is to be made by a name that stands already."""
