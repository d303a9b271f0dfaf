"""A shelf: a table of one size, which never grows."""

from slotbook.errors import Full, Lacking
from slotbook.keys import checked
from slotbook.sizes import room
from slotbook.slots import GONE, cells_of, paper, place_of


class Shelf:
    """Leads from keys to values, in the order of coming."""

    def __init__(self, size=8):
        self.lay_out(size, [], [], [])
        self.came = 0
        self.went = 0
        self.tidyings = 0
        self.moved = 0

    def lay_out(self, size, row, held, comings):
        """Makes the cells anew for a row, beside which stand the values held and the numbers of coming."""
        # The cells come first, for they may be refused, and then all else is to stay as it was.
        self.cells = cells_of(row, size)
        self.size = size
        self.row = row
        self.held = held
        self.comings = comings

    def put(self, key, value):
        """Puts a pair, and tells whether the key came anew."""
        place = self.place(checked(key))
        if place is None:
            self.come(key, value)
            return True
        self.held[place] = value
        return False

    def at(self, key):
        """The value of a key; refused with Lacking where it is not there."""
        return self.held[self.sure_place(key)]

    def told(self, key, other=None):
        """The value of a key, or the other thing where it is not there."""
        place = self.place(checked(key))
        return other if place is None else self.held[place]

    def has(self, key):
        """Whether a key is there."""
        return self.place(checked(key)) is not None

    def take(self, key):
        """Takes a key out, and tells its value; refused with Lacking where it is not there."""
        place = self.sure_place(key)
        value = self.held[place]
        self.write(key, GONE)
        self.row[place] = None
        self.held[place] = None
        self.went += 1
        return value

    def take_last(self):
        """Takes out the pair with the greatest number of coming, and tells it; refused with Lacking."""
        last = self.ahead(self.came + 1)
        if last is None:
            raise Lacking("no key is there")
        key = last[1]
        return (key, self.take(key))

    def emptied(self):
        """Takes all keys out; the numbers of coming go on."""
        self.went += self.many()
        self.lay_out(self.size_emptied(), [], [], [])

    def many(self):
        """How many keys are there."""
        return self.came - self.went

    def pairs(self):
        """The pairs (key, value), by rising numbers of coming."""
        return [(entry[1], entry[2]) for entry in self.entries()]

    def after(self, number):
        """The first (number of coming, key, value) above a number, or None."""
        later = [entry for entry in self.entries() if entry[0] > number]
        return later[0] if later else None

    def ahead(self, number):
        """The last (number of coming, key, value) below a number, or None."""
        sooner = [entry for entry in self.entries() if entry[0] < number]
        return sooner[-1] if sooner else None

    def paper(self, key):
        """The pairs (slot, cell) on the way to a key."""
        return paper(self.cells, self.row, checked(key))

    def form(self):
        """The cells and the row."""
        return (list(self.cells), list(self.row))

    def counts(self):
        """How many keys are there, came anew and went; how many tidyings there were, and keys that these moved."""
        return (self.many(), self.came, self.went, self.tidyings, self.moved)

    def entries(self):
        """Each (number of coming, key, value) that is there, by rising numbers, which are the row's order too."""
        return [entry for entry in zip(self.comings, self.row, self.held) if entry[1] is not None]

    def place(self, key):
        """A key's place in the row, or None where it is not there."""
        return place_of(self.cells, self.row, key)

    def sure_place(self, key):
        """The place of a key, which is refused with NoKey where it is none, and with Lacking where it is not there."""
        place = self.place(checked(key))
        if place is None:
            raise Lacking("this key is not there")
        return place

    def come(self, key, value):
        """A key that is not there comes anew."""
        if len(self.row) >= room(self.size):
            self.make_room()
        self.write(key, len(self.row))
        self.came += 1
        self.row.append(key)
        self.held.append(value)
        self.comings.append(self.came)

    def size_emptied(self):
        """The size behind an emptying; a shelf's stays."""
        return self.size

    def make_room(self):
        """Sees to it that one more place can come; a shelf can't."""
        raise Full("the row has as many places as the size has room")

    def write(self, key, cell):
        """Writes a place or GONE into the cell with which a key's paper ends."""
        pairs = paper(self.cells, self.row, key)
        self.cells[pairs[-1][0]] = cell
