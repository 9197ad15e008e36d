"""Slow second opinions on what may be held of a book."""

import functools
import itertools
import random

from fewheld.books import Book
from tests.helpers import random_book, ring, sample_books


def sets_of(book):
    """All sets of the book, in order."""
    return [states for many in range(book.size + 1) for states in itertools.combinations(range(book.size), many)]


def marks_by_hand(book):
    """For each set something that is the same for alike sets, found by parting the sets again and again."""
    every = sets_of(book)
    marks = {states: bool(set(states) & set(book.ends)) for states in every}
    many = 0
    while many < len(set(marks.values())):
        many = len(set(marks.values()))
        longer = {states: (marks[states],) + tuple(marks[book.comes(states, a)] for a in book.letters)
                  for states in every}
        numbers = {mark: at for at, mark in enumerate(sorted(set(longer.values())))}
        marks = {states: numbers[longer[states]] for states in every}
    return marks


@functools.lru_cache(maxsize=None)
def known(find, name):
    """What is found for the book with this repr, found once."""
    return find(eval(name, {"Book": Book}))


def marks_of(book):
    """For each set something that is the same for alike sets."""
    return known(marks_by_hand, repr(book))


def covers_by_hand(book):
    """For each set its covers, in order."""
    marks = marks_of(book)
    return {states: [part for part in parts_of(states) if marks[part] == marks[states]] for states in sets_of(book)}


def covers_of(book):
    """For each set its covers, in order."""
    return known(covers_by_hand, repr(book))


def come_by_hand(book, states, letter):
    """What comes of the states by the letter, as an ascending tuple."""
    return tuple(sorted({q for p, a, q in book.steps() if a == letter and p in states}))


def parts_of(states):
    """All parts of the set, in order."""
    return [part for many in range(len(states) + 1) for part in itertools.combinations(states, many)]


def price_of(states, prices=None):
    """What the states cost."""
    return len(states) if prices is None else sum(prices[state] for state in states)


def struck_by_hand(book, budget, prices=None):
    """What is left of the sets that fit, and the tuples (rank, set, letter) of those that are struck, turn by turn."""
    covers = covers_of(book)
    wants = {states: [(letter, covers[come_by_hand(book, states, letter)]) for letter in book.letters]
             for states in sets_of(book)}
    left = {states for states in sets_of(book) if price_of(states, prices) <= budget}
    struck = []
    for turn in itertools.count(1):
        now = []
        for states in sets_of(book):
            lacking = [letter for letter, due in wants[states] if left.isdisjoint(due)]
            if states in left and lacking:
                now.append((turn, states, lacking[0]))
        if not now:
            return [states for states in sets_of(book) if states in left], struck
        struck.extend(now)
        left = left - {states for _, states, _ in now}


def is_family_by_hand(book, sets, budget, prices=None):
    """Whether these sets are a family within the budget."""
    covers = covers_of(book)
    return all(price_of(states, prices) <= budget for states in sets) and all(
        any(part in sets for part in covers[come_by_hand(book, states, letter)])
        for states in sets for letter in book.letters)


def alike_parts(book, states, kept):
    """The sets among these that are a part of the states and alike to them, in order."""
    return [part for part in covers_of(book)[tuple(states)] if part in kept]


def keeps(book, budget, prices=None):
    """Whether a reader can hold so much and lose no row, found by playing it against all letters.

    The reader goes on with what it holds of what comes. The game goes round
    in a circle where the letters come to what was seen before; a play is lost
    as soon as an end is in what comes and none in what is held.
    """
    fits = [states for states in sets_of(book) if price_of(states, prices) <= budget]
    ends = set(book.ends)
    whole = [set(states) for _, states in book.coming()]
    safe = {(tuple(sorted(come)), held) for come in whole for held in fits
            if set(held) <= come and (not come & ends or set(held) & ends)}
    while True:
        good = {(come, held) for come, held in safe
                if all(any((come_by_hand(book, come, a), part) in safe for part in fits
                           if set(part) <= set(come_by_hand(book, held, a))) for a in book.letters)}
        if good == safe:
            return any((book.starts, held) in safe for held in fits if set(held) <= set(book.starts))
        safe = good


def letters_alike(book, budget, prices=None, most=40):
    """The least number of letters behind which a reader cannot be alike to all that comes; None if it always can.

    What it holds must fit into the budget, at the beginning and behind each letter.
    """
    fits = [states for states in sets_of(book) if price_of(states, prices) <= budget]

    @functools.lru_cache(maxsize=None)
    def can_stay(come, many):
        """Whether some part of what comes can be held, and so much more behind each row of so many letters."""
        return any(many == 0 or all(can_stay(come_by_hand(book, part, a), many - 1) for a in book.letters)
                   for part in alike_parts(book, come, fits))

    return next((many for many in range(most) if not can_stay(book.starts, many)), None)


def plan_by_hand(book, budget, prices=None):
    """The begin and the table of the plan of the budget."""
    left, _ = struck_by_hand(book, budget, prices)
    begin = alike_parts(book, book.starts, left)[0]
    table = {}
    todo = [begin]
    while todo:
        states = todo.pop()
        for letter in book.letters:
            if (states, letter) not in table:
                table[(states, letter)] = alike_parts(book, come_by_hand(book, states, letter), left)[0]
                todo.append(table[(states, letter)])
    return begin, table


def is_within_by_hand(book, one, other):
    """Whether the other set reads all that the one reads: it is alike to both together."""
    marks = marks_of(book)
    return marks[tuple(sorted({*one, *other}))] == marks[tuple(sorted(other))]


def is_enough_by_hand(book, k):
    """Whether k held states are enough."""
    return bool(alike_parts(book, book.starts, struck_by_hand(book, k)[0]))


def chain_book(size):
    """A book in which the states lead up, by one letter each to one state, by the other one to two."""
    steps = [(p, "a", p + 1) for p in range(size - 1)] + [(p, "b", q) for p in range(size - 2) for q in (p + 1, p + 2)]
    return Book("ab", size, [0], [size - 1], steps)


FIVE = Book("ab", 6, [0, 1], [5], [(0, "a", 2), (0, "a", 3), (0, "b", 4), (1, "a", 4), (1, "b", 2), (1, "b", 3),
                                   (2, "a", 5), (3, "b", 5), (4, "a", 5), (4, "b", 5)])
WIDE = Book("ab", 6, [0, 1], [5], [(0, "a", 2), (1, "a", 3), (1, "a", 4), (2, "a", 5), (2, "b", 5), (3, "a", 5),
                                   (4, "a", 5)])
NONE = Book("ab", 6, [0], [3, 4, 5], [(0, "a", 1), (0, "a", 2), (0, "a", 3), (0, "b", 1), (0, "b", 2), (0, "b", 4),
                                      (1, "a", 5), (2, "b", 5), (3, "a", 5), (4, "b", 5)])
SHOWN = Book("ab", 4, [0], [3], [(0, "a", 1), (0, "a", 2), (1, "a", 3), (2, "b", 3)])
THIRD = Book("ab", 4, [0], [3], [(0, "a", 0), (0, "a", 1), (0, "b", 0), (1, "a", 2), (1, "b", 2), (2, "a", 3),
                                 (2, "b", 3)])


# Budgets that are not enough are exhausted in up to nine letters, held widths
# are above cover widths, or stairs fall more than once.
HARD = [
    Book("a", 3, [1], [0], [(0, "a", 2), (1, "a", 0), (1, "a", 2), (2, "a", 1)]),
    Book("a", 3, [1, 2], [0, 2], [(0, "a", 1), (1, "a", 2), (2, "a", 0), (2, "a", 1)]),
    Book("ab", 3, [2], [1], [(0, "b", 1), (0, "b", 2), (1, "a", 0), (1, "b", 0), (1, "b", 2), (2, "a", 1)]),
    Book("abc", 3, [2], [2], [(0, "b", 0), (0, "b", 2), (1, "b", 1), (1, "c", 0), (2, "b", 1)]),
    Book("a", 3, [0, 1, 2], [1], [(0, "a", 1), (2, "a", 0)]),
    Book("ab", 4, [2], [0, 2], [(0, "b", 1), (0, "b", 3), (1, "a", 0), (2, "a", 2), (2, "b", 0), (3, "a", 3),
                                (3, "b", 2)]),
    Book("ab", 4, [1, 2, 3], [0], [(1, "b", 3), (2, "b", 0), (3, "a", 3), (3, "b", 2)]),
    Book("ab", 4, [0, 1, 2, 3], [0, 1, 2], [(0, "a", 2), (1, "a", 1), (2, "b", 2), (3, "a", 0)]),
    Book("ab", 4, [0, 1, 2], [1, 3], [(0, "b", 1), (1, "b", 0), (1, "b", 2), (1, "b", 3)]),
    Book("abc", 5, [2], [0, 4], [(0, "a", 4), (1, "a", 0), (1, "a", 3), (1, "b", 0), (2, "a", 2), (2, "b", 4),
                                 (3, "a", 0), (3, "c", 0), (4, "a", 1)]),
    Book("ab", 5, [0, 1, 2, 3, 4], [0, 1, 3], [
        (0, "a", 4), (0, "b", 2), (1, "a", 0), (1, "a", 2), (1, "a", 4), (2, "b", 1), (2, "b", 2), (3, "a", 0),
        (3, "a", 1), (3, "a", 2), (3, "b", 3), (3, "b", 4), (4, "a", 1), (4, "a", 3), (4, "b", 0)]),
]


# For each of these fewer held states are enough if one to five things are put
# in that fit: steps alone, or states as starts and steps.
TORN = [
    Book("a", 4, [0, 1, 2, 3], [1, 2, 3], [(0, "a", 2), (2, "a", 0), (2, "a", 1)]),
    Book("ab", 4, [1, 3], [0, 2, 3], [(1, "a", 3), (2, "a", 3)]),
    Book("a", 5, [1, 3, 4], [0, 2, 3], [(0, "a", 3), (1, "a", 2), (4, "a", 1)]),
    Book("a", 3, [0], [1, 2], [(0, "a", 0), (0, "a", 1), (2, "a", 0), (2, "a", 1)]),
    Book("a", 5, [0, 4], [2], [(0, "a", 2), (1, "a", 0), (1, "a", 2), (1, "a", 3), (1, "a", 4), (3, "a", 2),
                               (4, "a", 3), (4, "a", 4)]),
    Book("a", 4, [1, 2, 3], [0, 1, 2], [(0, "a", 2), (0, "a", 3), (3, "a", 0)]),
    Book("a", 4, [0, 1, 3], [2, 3], [(0, "a", 1), (1, "a", 0), (1, "a", 3), (2, "a", 1), (3, "a", 0)]),
    Book("ab", 3, [0], [0, 1], [(0, "b", 0), (0, "b", 2), (1, "a", 0), (1, "a", 2), (1, "b", 0), (1, "b", 2),
                                (2, "a", 1), (2, "b", 0)]),
    Book("ab", 3, [0, 1], [0, 1, 2], [(0, "a", 0), (0, "a", 1), (1, "b", 0), (2, "a", 0), (2, "a", 1), (2, "b", 0)]),
    Book("ab", 4, [0], [0, 1, 2], [(0, "a", 2), (0, "b", 0), (0, "b", 3), (1, "a", 0), (1, "a", 3), (1, "b", 0),
                                   (1, "b", 2), (2, "a", 0), (2, "a", 2), (3, "a", 0), (3, "a", 3)]),
    Book("ab", 5, [0, 1, 4], [0, 1, 2, 4], [
        (0, "b", 1), (1, "a", 0), (1, "a", 4), (2, "a", 0), (2, "a", 2), (2, "a", 3), (3, "b", 2), (3, "b", 4),
        (4, "a", 2), (4, "b", 4)]),
    Book("ab", 5, [1, 2, 3, 4], [1, 3], [
        (0, "a", 1), (0, "b", 2), (0, "b", 3), (0, "b", 4), (1, "a", 2), (1, "a", 3), (1, "a", 4), (2, "a", 0),
        (2, "b", 0), (2, "b", 3), (2, "b", 4), (4, "a", 1), (4, "b", 2)]),
    Book("ab", 5, [3], [0, 1, 2, 3], [
        (0, "a", 0), (0, "a", 4), (0, "b", 4), (1, "a", 3), (1, "a", 4), (1, "b", 2), (1, "b", 3), (2, "a", 4),
        (3, "a", 0), (3, "a", 2), (3, "b", 0), (3, "b", 3), (4, "a", 4), (4, "b", 0), (4, "b", 4)]),
]


def lively_books(many=40, seed=3):
    """Books that want more than few states at once, most of them: what comes can seldom be told by less."""
    source = random.Random(seed)
    found = [FIVE, WIDE, NONE, SHOWN, THIRD, ~THIRD, ring("ab", 3, [0, 1]), chain_book(6)] + HARD
    while len(found) < many:
        size = source.randint(2, 5)
        book = random_book(source, source.choice(["a", "ab", "abc"]), size)
        if len(book.useful()) > 1 and max(len(states) for _, states in book.coming()) > 1:
            found.append(book)
    return found


def tried_books():
    """Books of all kinds."""
    return lively_books() + sample_books(24)


def random_prices(source, size):
    """Prices of many kinds, or none."""
    return source.choice([None, [1] * size, [100] * size, [source.randint(1, 5) for _ in range(size)],
                          [source.randint(1, 100) for _ in range(size)], list(range(1, size + 1))])
