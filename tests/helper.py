"""What more than one test file needs."""

import unittest

from slotbook.errors import BookError, Broken, Full, Lacking
from slotbook.keys import checked
from slotbook.stamps import TURN, stamp


class Unhelpful:
    """A thing that can be neither compared, counted, written out nor asked whether it is true."""

    __hash__ = None

    def refuse(self, *others):
        raise RuntimeError("not to be asked")

    __eq__ = __lt__ = __gt__ = __le__ = __ge__ = __len__ = __bool__ = __iter__ = __repr__ = __str__ = refuse
    __and__ = __rand__ = __sub__ = __rsub__ = __mod__ = __index__ = __int__ = refuse


BOUND = 10 ** 60


def nested(inner, levels):
    """The inner thing, with so many tuples around it."""
    for level in range(levels):
        inner = (inner,)
    return inner


NUMBERS = [0, 1, -1, 2, -2, 7, 2147483647, -2147483648, 2 ** 64, BOUND - 2, BOUND - 1, 2 - BOUND, 1 - BOUND]
WRONG_NUMBERS = [BOUND, BOUND + 1, -BOUND, -BOUND - 1, 10 ** 61, -10 ** 61, 10 ** 5000, -10 ** 5000]
TEXTS = ["", " ", "a", "~", "0", "none", '"', "\\", "x" * 59, "x" * 60]
WRONG_TEXTS = ["x" * 61, "x" * 62, "x" * 5000]
TUPLES = [
    (), (0,), ("",), (1, "a"), (1, 1), (1, 2, 3, 4, 5, 6), ("a",) * 6, (BOUND - 1, 1 - BOUND, "x" * 60),
    ((),), ((1,),), (1, (2,)), ((1,), 2), ((), ()), ((1, 2, 3, 4, 5, 6),) * 6,
    (((),),), (((1,),),), (1, (2, (3,))), (((1,), 2), 3), ("a", ("b", ("c", "d"))), (1, (), (2, ("c",), ())),
    (((1, 2, 3, 4, 5, 6),) * 6,) * 6,
]
LONG_TUPLES = [(1,) * 7, ("a",) * 7, ((),) * 7, tuple(range(8)), (0,) * 5000]
DEEP_TUPLES = [
    ((((),),),), ((((1,),),),), (1, (2, (3, (4,)))), (1, 2, 3, 4, 5, (1, 2, 3, 4, 5, (1, 2, 3, 4, 5, ()))),
    ((((), 1), 1), 1), ((), ((), ((), ()))), nested((), 4), nested((), 49),
]
OTHERS = [
    True, False, None, [], [1], {}, {1: 2}, set(), {1}, frozenset(), frozenset({1}), 0.0, 1.0, float("nan"),
    float("inf"), 1j, b"", b"a", bytearray(b"a"), range(3), object(), int, str, tuple, len, stamp, Unhelpful(),
]

GOOD = NUMBERS + TEXTS + TUPLES
VALUES = [
    None, 0, -1, 7, 10 ** 60 - 1, 1 - 10 ** 60, "", "a", "none", "~" * 60, (), (None,), (None, (1, "b", ()), "c"),
    nested(None, 40), tuple(range(100)),
]
NOT_GOOD_ANYWHERE = OTHERS + WRONG_NUMBERS + WRONG_TEXTS + LONG_TUPLES


def tuples_with(thing):
    """Tuples, short and shallow enough, in which the thing stands at each place and each depth."""
    found = []
    for many in range(1, 7):
        for place in range(many):
            row = (1,) * place + (thing,) + ("a",) * (many - place - 1)
            found.append(row)
            found.append((row,))
            found.append((0, row, "b"))
            found.append((((),), (0, row), ()))
    for levels in range(1, 4):
        for place in range(6):
            found.append((1, (2,), "c", (), 5)[:place] + (nested(thing, levels - 1),))
    return found


def all_wrong():
    """Whatever is no key, by itself and in tuples."""
    found = NOT_GOOD_ANYWHERE + DEEP_TUPLES
    for thing in NOT_GOOD_ANYWHERE:
        found = found + tuples_with(thing)
    return found


SIZES = (8, 16, 32, 64, 128, 256, 512, 1024, 2048, 4096)
ROOMS = (5, 10, 21, 42, 85, 170, 341, 682, 1365, 2730)

NO_SIZES = [
    True, False, None, "", "8", "a", [], [8], (), (8,), {}, {8: 8}, set(), {8}, b"8", 8.0, 16.0, 8j, float("nan"),
    float("inf"), range(8), object(), int, len, Unhelpful(),
    0, 1, 2, 3, 4, 5, 6, 7, 9, 10, 12, 15, 17, 24, 31, 33, 48, 63, 65, 127, 129, 1023, 1025, 2047, 2049, 3072, 4095,
    4097, 8191, 8192, 16384, 2 ** 31, 2 ** 64, 10 ** 30, -1, -2, -4, -7, -8, -9, -16, -32, -4096, -(2 ** 64),
]

EMPTY = -1
GONE = -2

# In each of these rows all keys have one stamp.
LIKE_STAMPS = [
    [0, TURN, -TURN, ((0,),), 2 * TURN], ["", 7, TURN + 7, 7 - TURN], [(), 11, TURN + 11], ["a", 314, TURN + 314],
    ["Aa", "BB", 8839, TURN + 8839], [(5,), 11000033 ^ 5], [(TURN,), (0,), 11000033],
]
ROWS = [
    [], [None], [None, None, None], [0], ["a"], [()], [0, 8, 16], [0, 8, 64], [64, 0, 128, 8, 256], [None, 5, None],
    [5, None, 13, None, 21], [7, 15, 23, 31, 39], [-1, -2, -3, -4, -5], [TURN - 1, -1 - TURN, 6, 14, 22],
    ["a", "b", "c", (1, "a"), (1, ("b", ()))], [10 ** 60 - 1, 1 - 10 ** 60, "~" * 60, None, ("", ())],
] + LIKE_STAMPS


def probes_by_steps(mark, size):
    """A stamp's probes by another way: step by step, each a stride behind the last one."""
    step = mark // 32
    if step % 2 == 0:
        step += 1
    slots = [mark % size]
    while len(slots) < size:
        slots.append((slots[-1] + step) % size)
    return slots


def paper_by_point(cells, row, key):
    """A key's paper by another way: all its probes, cut behind the first that ends it."""
    pairs = [(slot, cells[slot]) for slot in probes_by_steps(stamp(key), len(cells))]
    own = row.index(key) if key in row else None
    ends = [number for number, (slot, cell) in enumerate(pairs) if cell == EMPTY or cell == own]
    return pairs[:ends[0] + 1]


def cells_by_point(row, size):
    """The cells of a row by another way: each key's place into the first EMPTY of all its probes."""
    cells = [EMPTY] * size
    for place in range(len(row)):
        if row[place] is not None:
            free = [slot for slot in probes_by_steps(stamp(row[place]), size) if cells[slot] == EMPTY]
            cells[free[0]] = place
    return cells


def put(cells, row, key):
    """New cells and a new row, to which a key came."""
    slot = [slot for slot in probes_by_steps(stamp(key), len(cells)) if cells[slot] == EMPTY][0]
    return cells[:slot] + [len(row)] + cells[slot + 1:], row + [key]


def taken(cells, row, place):
    """New cells and a new row, from which the key at this place went."""
    slot = cells.index(place)
    return cells[:slot] + [GONE] + cells[slot + 1:], row[:place] + [None] + row[place + 1:]


def states(keys, size):
    """Cells and rows: keys that come, one by one, as far as there is room, with some that go between them."""
    cells, row = [EMPTY] * size, []
    found = [(cells, row)]
    for number, key in enumerate(keys[:2 * size // 3]):
        cells, row = put(cells, row, key)
        found.append((cells, row))
        if number % 3 == 2:
            cells, row = taken(cells, row, number - number % 2)
            found.append((cells, row))
    for place, key in enumerate(row):
        if key is not None:
            cells, row = taken(cells, row, place)
            found.append((cells, row))
    return found


def all_states():
    """States of small and greater sizes, of keys that come to like slots, and of such with like stamps."""
    found = []
    for keys in (
        [0, 8, 16, 24, 32], [0, TURN, 2 * TURN, -TURN, ((0,),)], [64, 0, 128, 8, 256], ["a", 314, "b", (), 11],
        [7, "", 15, (1, 2), -1], [TURN - 1, -1, 2 * TURN - 1, 5, 4],
    ):
        found = found + states(keys, 8)
    for size in (16, 32, 64):
        found = found + states([size * number for number in range(size)], size)
        found = found + states([TURN * number for number in range(size)], size)
        found = found + states([(number, "x" * (number % 60)) for number in range(size)], size)
    return found


class PlainBook:
    """A shelf or a table by another way: a plain row of (number of coming, key, value), and cells by the points."""

    def __init__(self, size=8, grows=False):
        self.grows = grows
        self.plain = []
        self.cells, self.row = [EMPTY] * size, []
        self.came = self.went = self.tidyings = self.moved = 0

    def where(self, key):
        """The key's number in the plain row, or None."""
        found = [number for number, entry in enumerate(self.plain) if entry[1] == checked(key)]
        return found[0] if found else None

    def has(self, key):
        checked(key)
        return self.where(key) is not None

    def told(self, key, other=None):
        return self.plain[self.where(key)][2] if self.has(key) else other

    def at(self, key):
        if not self.has(key):
            raise Lacking
        return self.told(key)

    def put(self, key, value):
        if self.has(key):
            where = self.where(key)
            self.plain[where] = (self.plain[where][0], key, value)
            return False
        if len(self.row) == len(self.cells) * 2 // 3:
            if not self.grows:
                raise Full
            self.tidied()
        self.came += 1
        self.plain = self.plain + [(self.came, key, value)]
        self.cells, self.row = put(self.cells, self.row, key)
        return True

    def tidied(self):
        size = 8
        while size < 3 * len(self.plain):
            size = size + size
        self.row = [entry[1] for entry in self.plain]
        self.cells = cells_by_point(self.row, size)
        self.tidyings += 1
        self.moved += len(self.plain)

    def take(self, key):
        value = self.at(key)
        del self.plain[self.where(key)]
        self.cells, self.row = taken(self.cells, self.row, self.row.index(key))
        self.went += 1
        return value

    def take_last(self):
        if not self.plain:
            raise Lacking
        number, key, value = self.plain[-1]
        return (key, self.take(key))

    def emptied(self):
        self.went += len(self.plain)
        self.plain = []
        self.cells, self.row = [EMPTY] * (8 if self.grows else len(self.cells)), []

    def many(self):
        return len(self.plain)

    def pairs(self):
        return [(key, value) for number, key, value in self.plain]

    def after(self, number):
        return next((entry for entry in self.plain if entry[0] > number), None)

    def ahead(self, number):
        return next((entry for entry in reversed(self.plain) if entry[0] < number), None)

    def paper(self, key):
        return paper_by_point(self.cells, self.row, checked(key))

    def form(self):
        return (self.cells, self.row)

    def counts(self):
        return (len(self.plain), self.came, self.went, self.tidyings, self.moved)


class PlainWalk:
    """A walk by another way: it keeps what it told last, and looks through the plain row for what is next."""

    def __init__(self, book, back=False, strict=False):
        self.book, self.back, self.strict = book, back, strict
        self.made = (book.came, book.went)
        self.bound = book.came + 1 if back else 0
        self.over = False

    def step(self):
        if self.over:
            return None
        if self.strict and self.made != (self.book.came, self.book.went):
            raise Broken
        if self.back:
            left = [entry for entry in self.book.plain if entry[0] < self.bound][::-1]
        else:
            left = [entry for entry in self.book.plain if entry[0] > self.bound]
        if not left:
            self.over = True
            return None
        self.bound = left[0][0]
        return left[0][1:]


class BookCase(unittest.TestCase):
    def assert_refused(self, asked, deed, *handed):
        """The deed is refused with just this class, which is a BookError and none of the others."""
        with self.assertRaises(asked) as refused:
            deed(*handed)
        self.assertEqual(refused.exception.__class__.__mro__[:3], (asked, BookError, ValueError))


def answer(thing, deed, *handed):
    """What a thing answers to a deed, or the class with which it refuses."""
    try:
        return getattr(thing, deed)(*handed)
    except BookError as refused:
        return refused.__class__


def state(book):
    """All that a book tells of itself."""
    return (book.form(), book.counts(), book.pairs(), book.many())


def numbers(seed):
    """Whole numbers below 2 ** 16, the same ones each time, which look like chance."""
    while True:
        seed = (seed * 1103515245 + 12345) % 2 ** 31
        yield seed >> 15


def deeds(seed, many, keys, rare=8):
    """So many deeds with their arguments, of all kinds, with keys out of these; the rarer, the fewer emptyings."""
    some = numbers(seed)
    puts = 1
    for count in range(many):
        if count % 40 == 0:
            # For a while mostly puts, then mostly takings, so that a book gets fuller and emptier by turns.
            puts = 1 + next(some) % 5
        choice = next(some) % 60
        key = keys[next(some) % len(keys)]
        if choice < 8 * puts:
            yield ("put", key, (count, VALUES[count % len(VALUES)]))
        elif choice < 50:
            yield ("take", key)
        elif choice < 52:
            yield ("take_last",)
        elif choice < 54 and next(some) % rare == 0:
            yield ("emptied",)
        elif choice < 57:
            yield (("at", "has", "told", "paper")[next(some) % 4], key)
        else:
            yield (("after", "ahead")[choice % 2], next(some) % (count + 9) - 4)
