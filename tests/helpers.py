"""What several tests need: wrong values, books to try, and a slow second opinion."""

import enum
import itertools
import random
import unittest
from fractions import Fraction

from fewheld.books import Book
from fewheld.readers import ListRule, Plan
from fewheld.rows import row_at


class Own:
    """An own object with nothing special."""


class Alike:
    """An own object that claims to be equal to all values."""

    def __eq__(self, other):
        return True

    def __hash__(self):
        return 0


class Touchy:
    """An own object that must not be looked into."""

    def refuse(self, *_):
        raise AssertionError("looked into")

    __eq__ = __ne__ = __lt__ = __hash__ = __len__ = __iter__ = __contains__ = refuse
    __bool__ = __int__ = __index__ = __getitem__ = __str__ = refuse


class Number(enum.IntEnum):
    """Integers of a derived class."""

    ZERO = 0
    ONE = 1
    TWO = 2


SOME_BOOK = Book("ab", 2, [0], [1], [(0, "a", 1)])

NO_INTEGERS = [
    True, False, None, 0.0, 1.0, 2.5, float("nan"), 1j, Fraction(1), "", "1", "a", b"1", (), (1,), [], [1],
    {}, {1: 1}, set(), {1}, frozenset([1]), range(2), int, Own(), Alike(), Touchy(), SOME_BOOK, ...,
]
NO_STRINGS = [
    True, False, None, 0, 1, -1, 1.0, b"", b"a", b"ab", (), ("a",), ("a", "b"), [], ["a"], ["a", "b"], {}, {"a": 1},
    {"a"}, range(1), str, Own(), Alike(), Touchy(), SOME_BOOK, ..., bytearray(b"a"), iter("ab"),
]
NO_LISTS = [
    True, False, None, 0, 1, 1.0, "", "a", "01", b"", b"\x00", {}, {0: 0}, set(), {0}, frozenset(), range(1), range(0),
    list, Own(), Alike(), Touchy(), SOME_BOOK, ..., iter([0]), {0: 0}.keys(),
]
NO_LETTERS = NO_STRINGS + ["", "ba", "aa", "aab", "abcde", "A", "aB", "a b", " ", "a\n", "1", "a1", "`", "{", "\u00e4",
                           "a\u00e9", "\ud800", "abcdefghijklmnopqrstuvwxyz", "a" * 20000]
NO_ROWS = NO_STRINGS + ["c", "abc", "A", "aA", " ", "a ", "-", "ab\n", "1", "\u00e4", "\ud800", "b" * 199 + "c"]
NO_COUNTS = NO_INTEGERS + [-1, -2, -10 ** 29]
# States are those of a book of two states.
NO_STATES = NO_INTEGERS + [-1, 2, 3, 7, 10 ** 29, -10 ** 29]
NO_SETS = NO_LISTS + [[value] for value in NO_STATES] + [
    [0, 2], [2, 0], (0, -1), [0, 0], (1, 1), [0, 1, 0], [0, True], [False], [0, None], [[0]], [(0, 1)], ["0"],
    [0] * 1000,
]
NO_STEPS = NO_LISTS + [
    (), (0,), (0, "a"), (0, "a", 1, 0), [0, "a", 1], [], ("a", 0, 1), (0, 1, "a"), "0a1", (0, "a", [1]), ((0, "a", 1),),
] + [(value, "a", 1) for value in NO_STATES] + [(0, "a", value) for value in NO_STATES] + [
    (0, value, 1) for value in NO_STRINGS + ["", "ab", "c", "A", "aa", "\u00e4"]
]
NO_BOOKS = [None, True, False, 0, 1, 1.5, "", "ab", b"a", (), [], {}, set(), {1}, Own(), Alike(), Book, [SOME_BOOK],
            (SOME_BOOK,), repr(SOME_BOOK), (0, "a", 1), Touchy(), ...]
# Letters and orders are those of a book of two states over "ab".
NO_SINGLE_LETTERS = NO_STRINGS + ["", "ab", "aa", "c", "A", "B", " ", "-", "\u00e4", "\ud800"]
NO_RULES = NO_BOOKS + [SOME_BOOK, ListRule, Plan, [0, 1], ((0, 1), 1), "width 1 order 0 1", {((0,), "a"): [1]},
                       [ListRule([0, 1], 1)]]
NO_ORDERS = NO_SETS + [[], (), [0], [1], (0,), [0, 1, 1], [1, 2], [0, 1, 2], (2, 0, 1)]


class Checks(unittest.TestCase):
    """A test case that asks errors for their attributes."""

    def check_raises(self, error, told, call, *values, **named):
        """The call raises just this error, and it keeps what is told."""
        with self.assertRaises(error) as caught:
            call(*values, **named)
        self.check_error(caught.exception, error, told)

    def check_parameters(self, call, *parameters):
        """The call raises the error of the first wrong parameter, each told as (name, right, wrong ones, error)."""
        names = [name for name, _, _, _ in parameters]
        rights = [right for _, right, _, _ in parameters]
        call(*rights)
        for at, (_, _, wrongs, error) in enumerate(parameters):
            for wrong in wrongs:
                values = rights[:at] + [wrong] + rights[at + 1:]
                self.check_raises(error, {"value": wrong}, call, *values)
                self.check_raises(error, {"value": wrong}, call, **dict(reversed(list(zip(names, values)))))
        for which in itertools.product([False, True], repeat=len(parameters)):
            values = [wrongs[-1 - at] if is_wrong else right
                      for at, (is_wrong, (_, right, wrongs, _)) in enumerate(zip(which, parameters))]
            if any(which):
                at = which.index(True)
                self.check_raises(parameters[at][3], {"value": values[at]}, call, *values)
                self.check_raises(parameters[at][3], {"value": values[at]}, call, **dict(zip(names, values)))

    def check_error(self, raised, error, told):
        """The raised error is of just this class, and keeps what is told."""
        self.assertIs(raised.__class__, error)
        kept = vars(raised)
        self.assertEqual(sorted(kept), sorted(told))
        for name, value in told.items():
            # What is passed is kept itself; only plain parts may be copies.
            self.assertTrue(kept[name] is value or kept[name].__class__ is value.__class__ and kept[name] == value)


def all_of(generate):
    """A function that calls the given one and goes through all that it yields."""
    return lambda *values, **named: list(generate(*values, **named))


def first_of(generate):
    """A function that calls the given one and asks for the first element only."""
    return lambda *values, **named: next(generate(*values, **named))


def short_rows(letters, most):
    """All rows of at most so many letters, in order."""
    return ["".join(row) for many in range(most + 1) for row in itertools.product(letters, repeat=many)]


def random_rows(source, letters, many, longest):
    """Some rows over the letters."""
    return ["".join(source.choices(letters, k=source.randint(0, longest))) for _ in range(many)]


def random_set(source, size):
    """Some states, in any sequence."""
    return source.sample(range(size), source.randint(0, size))


def random_book(source, letters, size):
    """A book with these letters and so many states."""
    every = [(p, a, q) for p in range(size) for a in letters for q in range(size)]
    steps = source.sample(every, min(len(every), source.randint(0, 3 * size)))
    return Book(letters, size, random_set(source, size), random_set(source, size), steps)


def sample_books(many=60, seed=7):
    """Books of all sizes, over one to four letters; the same ones in each run."""
    source = random.Random(seed)
    found = [random_book(source, source.choice(["a", "ab", "xz", "abc", "bdmz"]), 1 + at % 7) for at in range(many)]
    edges = [Book("a", 1), Book("abcd", 7), Book("a", 1, [0], [0]), Book("a", 1, [0], [0], [(0, "a", 0)]),
             Book("ab", 3, [], [0, 1, 2], [(0, "a", 1), (1, "b", 2)]), Book("ab", 3, [0, 1, 2], [], [(0, "a", 1)]),
             full_book("ab", 3), full_book("abcd", 7)]
    return found + edges


def full_book(letters, size):
    """The book with all starts, ends and steps."""
    every = list(range(size))
    return Book(letters, size, every, every, [(p, a, q) for p in every for a in letters for q in every])


def runs_by_hand(book, some, row):
    """The runs of the row from the set to an end, found among all tuples of states."""
    steps = book.steps()
    return [run for run in itertools.product(range(book.size), repeat=len(row) + 1)
            if run[0] in some and run[-1] in book.ends
            and all((run[at], row[at], run[at + 1]) in steps for at in range(len(row)))]


def comes_by_hand(book, some, row):
    """What comes of the set by the row, found from the steps."""
    come = set(some)
    for letter in row:
        come = {q for p, a, q in book.steps() if p in come and a == letter}
    return tuple(sorted(come))


def random_plan(source, letters, size):
    """A plan with sets of so many states and with these letters; it lacks some of them."""
    every = [tuple(p for p in range(size) if at >> p & 1) for at in range(1 << size)]
    table = {(states, a): random_set(source, size) for states in every for a in letters if source.random() < 0.8}
    return Plan(random_set(source, size), table)


def random_rules(source, book):
    """A list rule and a plan that meet the book."""
    order = source.sample(range(book.size), book.size)
    return [ListRule(order, source.randint(0, book.size)), random_plan(source, book.letters, book.size)]


def begun_by_hand(book, rule):
    """What the rule holds of the book's starts."""
    if isinstance(rule, ListRule):
        return tuple(sorted([p for p in rule.order if p in book.starts][:rule.width]))
    return tuple(p for p in book.starts if p in rule.begin)


def held_by_hand(book, rule, some, letter):
    """What the rule holds behind the letter."""
    come = comes_by_hand(book, some, letter)
    if isinstance(rule, ListRule):
        return tuple(sorted([p for p in rule.order if p in come][:rule.width]))
    return tuple(p for p in come if p in rule.table().get((tuple(sorted(some)), letter), []))


def found_by_hand(letters, begin, onward):
    """The tuples (first row, place) for all that comes of the beginning, found level by level."""
    found = {begin: ""}
    level = [begin]
    while level:
        longer = sorted((found[place] + letter, at, letter) for at, place in enumerate(level) for letter in letters)
        behind = []
        for row, at, letter in longer:
            place = onward(level[at], letter)
            if place not in found:
                found[place] = row
                behind.append(place)
        level = behind
    return [(row, place) for place, row in found.items()]


def together_by_hand(books, sets):
    """The tuples (first row, sets) of all sets that come of these, each in its own book, by the same row."""
    leads = [{(p, a): {q for x, y, q in book.steps() if (x, y) == (p, a)} for p in range(book.size)
              for a in book.letters} for book in books]

    def onward(place, letter):
        return tuple(frozenset().union(*[lead[(p, letter)] for p in some]) for lead, some in zip(leads, place))

    return found_by_hand(books[0].letters, tuple(frozenset(some) for some in sets), onward)


def ending_by_hand(books, sets):
    """For all that comes of the sets together: the first row, and for each set whether there is an end in it."""
    return [(row, tuple(bool(some & set(book.ends)) for book, some in zip(books, place)))
            for row, place in together_by_hand(books, sets)]


def first_by_hand(found, is_right):
    """The first row of these tuples (row, value) with a right value, or None."""
    return next((row for row, value in found if is_right(*value)), None)


def ring(letters, size, ends, start=0):
    """A book whose states stand in a ring; each letter leads to the next one."""
    return Book(letters, size, [start], ends, [(p, a, (p + 1) % size) for p in range(size) for a in letters])


def rows_to_try(letters):
    """Rows that tell books apart, as far as short rows do."""
    return [row_at(letters, number) for number in range(40)]
