"""A table: a shelf that grows."""

from slotbook.shelf import Shelf
from slotbook.sizes import LEAST, size_for
from slotbook.tidy import packed


class Table(Shelf):
    """A shelf of the least size at first, which is tidied where it would be Full."""

    def __init__(self):
        Shelf.__init__(self, LEAST)

    def size_emptied(self):
        """The size behind an emptying, the least one again."""
        return LEAST

    def make_room(self):
        """Tidies: the keys that are there get cells of the size for as many."""
        many = self.many()
        held = packed(self.row, self.held)
        comings = packed(self.row, self.comings)
        self.lay_out(size_for(many), held[0], held[1], comings[1])
        self.tidyings += 1
        self.moved += many
