"""Walks: over the pairs of a book, a step at a time, while it is changed."""

from slotbook.errors import Broken


class Walk:
    """A walk over a shelf, a table or a kin, forward or backward; a strict one is broken by comings and goings."""

    def __init__(self, book, back=False, strict=False):
        self.book = book
        self.back = back
        self.strict = strict
        self.changes = self.changes_now()
        # A walk stands between two numbers of coming, not at a place: places change where a table is tidied.
        self.last = self.changes[0] + 1 if back else 0
        self.over = False

    def step(self):
        """The next pair (key, value), or None where there is none; then the walk is over."""
        if self.over:
            return None
        if self.strict and self.changes_now() != self.changes:
            raise Broken("a key came or went since this walk was made")
        entry = self.next_entry()
        if entry is None:
            self.over = True
            return None
        self.last = entry[0]
        return (entry[1], entry[2])

    def next_entry(self):
        """The (number of coming, key, value) that is next for this walk, or None."""
        return self.book.ahead(self.last) if self.back else self.book.after(self.last)

    def changes_now(self):
        """How many keys came to the book and how many went, so far."""
        # Both only ever rise, so a key that went and one that came don't hide each other.
        return self.book.counts()[1:3]
