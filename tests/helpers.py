"""What several tests need: wrong values, books to try, and a slow second opinion."""

import enum
import itertools
import random
import unittest
from fractions import Fraction

from fewheld.books import Book
from fewheld.rows import row_at


class Own:
    """An own object with nothing special."""


class Alike:
    """An own object that claims to be equal to all values."""

    def __eq__(self, other):
        return True

    def __hash__(self):
        return 0


class Touchy:
    """An own object that must not be looked into."""

    def refuse(self, *_):
        raise AssertionError("looked into")

    __eq__ = __ne__ = __lt__ = __hash__ = __len__ = __iter__ = __contains__ = refuse
    __bool__ = __int__ = __index__ = __getitem__ = __str__ = refuse


class Number(enum.IntEnum):
    """Integers of a derived class."""

    ZERO = 0
    ONE = 1
    TWO = 2


SOME_BOOK = Book("ab", 2, [0], [1], [(0, "a", 1)])

NO_INTEGERS = [
    True, False, None, 0.0, 1.0, 2.5, float("nan"), 1j, Fraction(1), "", "1", "a", b"1", (), (1,), [], [1],
    {}, {1: 1}, set(), {1}, frozenset([1]), range(2), int, Own(), Alike(), Touchy(), SOME_BOOK, ...,
]
NO_STRINGS = [
    True, False, None, 0, 1, -1, 1.0, b"", b"a", b"ab", (), ("a",), ("a", "b"), [], ["a"], ["a", "b"], {}, {"a": 1},
    {"a"}, range(1), str, Own(), Alike(), Touchy(), SOME_BOOK, ..., bytearray(b"a"), iter("ab"),
]
NO_LISTS = [
    True, False, None, 0, 1, 1.0, "", "a", "01", b"", b"\x00", {}, {0: 0}, set(), {0}, frozenset(), range(1), range(0),
    list, Own(), Alike(), Touchy(), SOME_BOOK, ..., iter([0]), {0: 0}.keys(),
]
NO_LETTERS = NO_STRINGS + ["", "ba", "aa", "aab", "abcde", "A", "aB", "a b", " ", "a\n", "1", "a1", "`", "{", "\u00e4",
                           "a\u00e9", "\ud800", "abcdefghijklmnopqrstuvwxyz", "a" * 20000]
NO_ROWS = NO_STRINGS + ["c", "abc", "A", "aA", " ", "a ", "-", "ab\n", "1", "\u00e4", "\ud800", "b" * 199 + "c"]
NO_COUNTS = NO_INTEGERS + [-1, -2, -10 ** 29]
# States are those of a book of two states.
NO_STATES = NO_INTEGERS + [-1, 2, 3, 7, 10 ** 29, -10 ** 29]
NO_SETS = NO_LISTS + [[value] for value in NO_STATES] + [
    [0, 2], [2, 0], (0, -1), [0, 0], (1, 1), [0, 1, 0], [0, True], [False], [0, None], [[0]], [(0, 1)], ["0"],
    [0] * 1000,
]
NO_STEPS = NO_LISTS + [
    (), (0,), (0, "a"), (0, "a", 1, 0), [0, "a", 1], [], ("a", 0, 1), (0, 1, "a"), "0a1", (0, "a", [1]), ((0, "a", 1),),
] + [(value, "a", 1) for value in NO_STATES] + [(0, "a", value) for value in NO_STATES] + [
    (0, value, 1) for value in NO_STRINGS + ["", "ab", "c", "A", "aa", "\u00e4"]
]


class Checks(unittest.TestCase):
    """A test case that asks errors for their attributes."""

    def check_raises(self, error, told, call, *values, **named):
        """The call raises just this error, and it keeps what is told."""
        with self.assertRaises(error) as caught:
            call(*values, **named)
        self.check_error(caught.exception, error, told)

    def check_error(self, raised, error, told):
        """The raised error is of just this class, and keeps what is told."""
        self.assertIs(raised.__class__, error)
        kept = vars(raised)
        self.assertEqual(sorted(kept), sorted(told))
        for name, value in told.items():
            # What is passed is kept itself; only plain parts may be copies.
            self.assertTrue(kept[name] is value or kept[name].__class__ is value.__class__ and kept[name] == value)


def all_of(generate):
    """A function that calls the given one and goes through all that it yields."""
    return lambda *values, **named: list(generate(*values, **named))


def first_of(generate):
    """A function that calls the given one and asks for the first element only."""
    return lambda *values, **named: next(generate(*values, **named))


def short_rows(letters, most):
    """All rows of at most so many letters, in order."""
    return ["".join(row) for many in range(most + 1) for row in itertools.product(letters, repeat=many)]


def random_rows(source, letters, many, longest):
    """Some rows over the letters."""
    return ["".join(source.choices(letters, k=source.randint(0, longest))) for _ in range(many)]


def random_set(source, size):
    """Some states, in any sequence."""
    return source.sample(range(size), source.randint(0, size))


def random_book(source, letters, size):
    """A book with these letters and so many states."""
    every = [(p, a, q) for p in range(size) for a in letters for q in range(size)]
    steps = source.sample(every, min(len(every), source.randint(0, 3 * size)))
    return Book(letters, size, random_set(source, size), random_set(source, size), steps)


def sample_books(many=60, seed=7):
    """Books of all sizes, over one to four letters; the same ones in each run."""
    source = random.Random(seed)
    found = [random_book(source, source.choice(["a", "ab", "xz", "abc", "bdmz"]), 1 + at % 7) for at in range(many)]
    edges = [Book("a", 1), Book("abcd", 7), Book("a", 1, [0], [0]), Book("a", 1, [0], [0], [(0, "a", 0)]),
             Book("ab", 3, [], [0, 1, 2], [(0, "a", 1), (1, "b", 2)]), Book("ab", 3, [0, 1, 2], [], [(0, "a", 1)]),
             full_book("ab", 3), full_book("abcd", 7)]
    return found + edges


def full_book(letters, size):
    """The book with all starts, ends and steps."""
    every = list(range(size))
    return Book(letters, size, every, every, [(p, a, q) for p in every for a in letters for q in every])


def runs_by_hand(book, some, row):
    """The runs of the row from the set to an end, found among all tuples of states."""
    steps = book.steps()
    return [run for run in itertools.product(range(book.size), repeat=len(row) + 1)
            if run[0] in some and run[-1] in book.ends
            and all((run[at], row[at], run[at + 1]) in steps for at in range(len(row)))]


def comes_by_hand(book, some, row):
    """What comes of the set by the row, found from the steps."""
    come = set(some)
    for letter in row:
        come = {q for p, a, q in book.steps() if p in come and a == letter}
    return tuple(sorted(come))


def rows_to_try(letters):
    """Rows that tell books apart, as far as short rows do."""
    return [row_at(letters, number) for number in range(40)]
