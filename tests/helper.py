"""What more than one test file needs."""

from slotbook.stamps import TURN, stamp


class Unhelpful:
    """A thing that can be neither compared, counted, written out nor asked whether it is true."""

    __hash__ = None

    def refuse(self, *others):
        raise RuntimeError("not to be asked")

    __eq__ = __lt__ = __gt__ = __le__ = __ge__ = __len__ = __bool__ = __iter__ = __repr__ = __str__ = refuse
    __and__ = __rand__ = __sub__ = __rsub__ = __mod__ = __index__ = __int__ = refuse


SIZES = (8, 16, 32, 64, 128, 256, 512, 1024, 2048, 4096)
ROOMS = (5, 10, 21, 42, 85, 170, 341, 682, 1365, 2730)

NO_SIZES = [
    True, False, None, "", "8", "a", [], [8], (), (8,), {}, {8: 8}, set(), {8}, b"8", 8.0, 16.0, 8j, float("nan"),
    float("inf"), range(8), object(), int, len, Unhelpful(),
    0, 1, 2, 3, 4, 5, 6, 7, 9, 10, 12, 15, 17, 24, 31, 33, 48, 63, 65, 127, 129, 1023, 1025, 2047, 2049, 3072, 4095,
    4097, 8191, 8192, 16384, 2 ** 31, 2 ** 64, 10 ** 30, -1, -2, -4, -7, -8, -9, -16, -32, -4096, -(2 ** 64),
]

EMPTY = -1
GONE = -2

# In each of these rows all keys have one stamp.
LIKE_STAMPS = [
    [0, TURN, -TURN, ((0,),), 2 * TURN], ["", 7, TURN + 7, 7 - TURN], [(), 11, TURN + 11], ["a", 314, TURN + 314],
    ["Aa", "BB", 8839, TURN + 8839], [(5,), 11000033 ^ 5], [(TURN,), (0,), 11000033],
]
ROWS = [
    [], [None], [None, None, None], [0], ["a"], [()], [0, 8, 16], [0, 8, 64], [64, 0, 128, 8, 256], [None, 5, None],
    [5, None, 13, None, 21], [7, 15, 23, 31, 39], [-1, -2, -3, -4, -5], [TURN - 1, -1 - TURN, 6, 14, 22],
    ["a", "b", "c", (1, "a"), (1, ("b", ()))], [10 ** 60 - 1, 1 - 10 ** 60, "~" * 60, None, ("", ())],
] + LIKE_STAMPS


def probes_by_steps(mark, size):
    """A stamp's probes by another way: step by step, each a stride behind the last one."""
    step = mark // 32
    if step % 2 == 0:
        step += 1
    slots = [mark % size]
    while len(slots) < size:
        slots.append((slots[-1] + step) % size)
    return slots


def put(cells, row, key):
    """New cells and a new row, to which a key came."""
    slot = [slot for slot in probes_by_steps(stamp(key), len(cells)) if cells[slot] == EMPTY][0]
    return cells[:slot] + [len(row)] + cells[slot + 1:], row + [key]


def taken(cells, row, place):
    """New cells and a new row, from which the key at this place went."""
    slot = cells.index(place)
    return cells[:slot] + [GONE] + cells[slot + 1:], row[:place] + [None] + row[place + 1:]


def states(keys, size):
    """Cells and rows: keys that come, one by one, as far as there is room, with some that go between them."""
    cells, row = [EMPTY] * size, []
    found = [(cells, row)]
    for number, key in enumerate(keys[:2 * size // 3]):
        cells, row = put(cells, row, key)
        found.append((cells, row))
        if number % 3 == 2:
            cells, row = taken(cells, row, number - number % 2)
            found.append((cells, row))
    for place, key in enumerate(row):
        if key is not None:
            cells, row = taken(cells, row, place)
            found.append((cells, row))
    return found


def all_states():
    """States of small and greater sizes, of keys that come to like slots, and of such with like stamps."""
    found = []
    for keys in (
        [0, 8, 16, 24, 32], [0, TURN, 2 * TURN, -TURN, ((0,),)], [64, 0, 128, 8, 256], ["a", 314, "b", (), 11],
        [7, "", 15, (1, 2), -1], [TURN - 1, -1, 2 * TURN - 1, 5, 4],
    ):
        found = found + states(keys, 8)
    for size in (16, 32, 64):
        found = found + states([size * number for number in range(size)], size)
        found = found + states([TURN * number for number in range(size)], size)
        found = found + states([(number, "x" * (number % 60)) for number in range(size)], size)
    return found
