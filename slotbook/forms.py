"""Form: whether cells and a row go together."""

from slotbook.sizes import is_size, room
from slotbook.slots import EMPTY, GONE, place_of


def in_form(cells, row):
    """Whether cells, any whole numbers, and a row, any keys and None, are in form."""
    # The probes come last: they are followed only in cells that hold nothing but places of the row's keys.
    return numbers_fit(cells, row) and no_two_alike(row) and each_in_one_cell(cells, row) and each_found(cells, row)


def numbers_fit(cells, row):
    """Whether there are as many cells as some size tells, and not too many places or GONE."""
    size = len(cells)
    return is_size(size) and len(row) <= room(size) and cells.count(GONE) <= row.count(None)


def no_two_alike(row):
    """Whether no two keys in the row are alike."""
    keys = [key for key in row if key is not None]
    return len(set(keys)) == len(keys)


def each_in_one_cell(cells, row):
    """Whether beside EMPTY and GONE just the places of the row's keys stand in the cells, each once."""
    held = [cell for cell in cells if cell != EMPTY and cell != GONE]
    return sorted(held) == places_of_keys(row)


def each_found(cells, row):
    """Whether the probes of each key come to its place ahead of any EMPTY."""
    return all([place_of(cells, row, row[place]) == place for place in places_of_keys(row)])


def places_of_keys(row):
    """The places at which the row has a key, rising."""
    return [place for place, key in enumerate(row) if key is not None]
