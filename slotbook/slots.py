"""Cells of a row, and the papers that tell the way to a key."""

from slotbook.errors import Full, NoSize
from slotbook.probes import probe
from slotbook.sizes import is_size, room
from slotbook.stamps import stamp

EMPTY = -1
GONE = -2


def cells_of(row, size):
    """The cells of a row in a size; refused with NoSize, or else with Full."""
    if not is_size(size):
        # The size is not shown in these words: not everything can be written out.
        raise NoSize("this is no size")
    if len(row) > room(size):
        raise Full("the row has more places than the size has room")
    cells = [EMPTY] * size
    for place, key in enumerate(row):
        if key is not None:
            cells[first_empty(cells, key)] = place
    return cells


def first_empty(cells, key):
    """The first of a key's probes that is EMPTY; at least one cell is."""
    mark = stamp(key)
    for count in range(len(cells)):
        slot = probe(mark, len(cells), count)
        if cells[slot] == EMPTY:
            return slot


def paper(cells, row, key):
    """The pairs (slot, cell) on the way to a key, up to its own cell or the first EMPTY one."""
    mark = stamp(key)
    pairs = []
    for count in range(len(cells)):
        slot = probe(mark, len(cells), count)
        pairs.append((slot, cells[slot]))
        if is_end(cells[slot], row, key):
            break
    return pairs


def is_end(cell, row, key):
    """Whether a key's paper ends with this cell."""
    # A number below 0 is no place, but Python would take it as one from the row's end.
    return cell == EMPTY or (cell >= 0 and row[cell] == key)


def place_of(cells, row, key):
    """A key's place by cells and a row, or None."""
    pairs = paper(cells, row, key)
    cell = pairs[-1][1]
    return None if cell == EMPTY else cell
