"""Two books that read the same rows, or within one another; their parting and missing rows; same numbers."""

import itertools
import random
import unittest

from fewheld.alike import books_alike, books_missing, books_parting, books_within, missing, parting
from fewheld.books import Book
from fewheld.counts import many_readings, same_numbers
from fewheld.errors import InvalidBook, OtherLetters
from tests.helpers import (NO_BOOKS, SOME_BOOK, Checks, ending_by_hand, first_by_hand, full_book, random_book, ring,
                           sample_books, short_rows)

CALLS = [books_alike, books_within, books_parting, books_missing, same_numbers]


def numbered(source, book):
    """The book with its states numbered otherwise."""
    to = source.sample(range(book.size), book.size)
    return Book(book.letters, book.size, [to[p] for p in book.starts], [to[p] for p in book.ends],
                [(to[p], a, to[q]) for p, a, q in book.steps()])


def tries():
    """Pairs of books over the same letters; many of them read alike, or nearly so."""
    source = random.Random(23)
    books = sample_books()
    for one in books:
        yield one, one
        yield one, numbered(source, one)
        for step in one.steps()[:3]:
            yield one, one - step
            yield one - step, numbered(source, one)
        if one.size < 7:
            yield one | Book(one.letters, 7 - one.size, [0], [], [(0, one.letters[0], 0)]), one
    for one, other in itertools.product(books[::5], books):
        if one.letters == other.letters:
            yield one, other


class BooksAlike(Checks):
    def test_walks_of_pairs_of_sets(self):
        alike = within = 0
        for one, other in tries():
            found = ending_by_hand([one, other], [one.starts, other.starts])
            due = first_by_hand(found, lambda first, second: first != second)
            self.assertEqual(books_parting(one, other), due)
            self.assertEqual(books_parting(other=one, one=other), due)
            self.assertIs(books_alike(one, other), due is None)
            self.assertIs(books_alike(other=other, one=one), due is None)
            alike += due is None
            due = first_by_hand(found, lambda first, second: first and not second)
            self.assertEqual(books_missing(one, other), due)
            self.assertEqual(books_missing(other=other, one=one), due)
            self.assertIs(books_within(one, other), due is None)
            self.assertIs(books_within(other=other, one=one), due is None)
            within += due is None
        self.assertGreater(alike, 100)
        self.assertGreater(within, alike + 50)

    def test_the_same_as_for_sets_of_one_book(self):
        for one, other in tries():
            if one.size + other.size <= 7:
                both = one | other
                mine, theirs = one.starts, tuple(p + one.size for p in other.starts)
                self.assertEqual(books_parting(one, other), parting(both, mine, theirs))
                self.assertEqual(books_missing(one, other), missing(both, mine, theirs))

    def test_rings_of_different_lengths(self):
        # The first row that both rings read to their last states.
        seven, six = ring("a", 7, [6]), ring("a", 6, [5])
        self.assertEqual(books_parting(seven, six), "a" * 5)
        self.assertEqual(books_missing(seven, six), "a" * 6)
        self.assertEqual(books_missing(six, seven), "a" * 5)
        but_six = ring("a", 6, [0, 1, 2, 3, 4])
        self.assertEqual(books_missing(seven, but_six), "a" * 41)
        self.assertEqual(books_parting(ring("a", 7, [0, 1, 2, 3, 4, 5]), ring("a", 1, [0])), "a" * 6)
        one = Book("a", 7, [0, 3], [1, 2, 4, 5, 6], [(0, "a", 1), (1, "a", 2), (2, "a", 0), (3, "a", 4),
                                                         (4, "a", 5), (5, "a", 6), (6, "a", 3)])
        other = Book("a", 7, [0, 2], [1, 3, 4, 5, 6], [(0, "a", 1), (1, "a", 0), (2, "a", 3), (3, "a", 4),
                                                       (4, "a", 5), (5, "a", 6), (6, "a", 2)])
        # The one lacks the rows of 0, 12, 24 .. letters, the other one those of 0, 10, 20 ..
        self.assertEqual(books_parting(one, other), "a" * 10)
        self.assertEqual(books_missing(other, one), "a" * 12)
        self.assertEqual(books_missing(one, other), "a" * 10)

    def test_books_with_other_numbers_of_states(self):
        one = Book("ab", 1, [0], [0], [(0, "a", 0), (0, "b", 0)])
        self.assertIsNone(books_parting(one, full_book("ab", 7)))
        self.assertIs(books_alike(full_book("ab", 7), one), True)
        self.assertEqual(books_missing(one, full_book("ab", 7) - (0, "a", 0)), None)

    def test_edges(self):
        nothing = [Book("ab", 1), Book("ab", 7, [], [0], [(0, "a", 0)]), Book("ab", 2, [0], [1], [(1, "a", 1)])]
        for one, other in itertools.product(nothing, repeat=2):
            self.assertIs(books_alike(one, other), True)
            self.assertIs(books_within(one, other), True)
            self.assertIsNone(books_parting(one, other))
            self.assertIsNone(books_missing(one, other))
            self.assertIsNone(same_numbers(one, other))
        for one in nothing:
            self.assertEqual(books_parting(one, SOME_BOOK), "a")
            self.assertEqual(books_missing(SOME_BOOK, one), "a")
            self.assertIsNone(books_missing(one, SOME_BOOK))
            self.assertEqual(books_parting(one, full_book("ab", 7)), "")


class SameNumbers(Checks):
    def test_all_short_rows(self):
        same = 0
        for one, other in tries():
            apart = [row for row in short_rows(one.letters, 3)
                     if len(list(one.readings(row))) != len(list(other.readings(row)))]
            found = same_numbers(one, other)
            self.assertEqual(same_numbers(other=one, one=other), found)
            if apart:
                self.assertEqual(found, apart[0])
            elif found is not None:
                self.assertGreater(len(found), 3)
                self.assertNotEqual(many_readings(one, found), many_readings(other, found))
            else:
                same += 1
                for row in short_rows(one.letters, 4)[::5]:
                    self.assertEqual(many_readings(one, row), many_readings(other, row))
        self.assertGreater(same, 100)

    def test_longer_rows(self):
        source = random.Random(31)
        lengths = {}
        for _ in range(300):
            one = random_book(source, "ab", 3)
            other = source.choice([one - source.choice(one.steps() or [(0, "a", 0)]), random_book(source, "ab", 3),
                                   one.with_ends([0])])
            due = next((row for row in short_rows("ab", 6)
                        if many_readings(one, row) != many_readings(other, row)), None)
            self.assertEqual(same_numbers(one, other), due)
            lengths[None if due is None else len(due)] = True
        self.assertGreater(len(lengths), 4)

    def test_alike_but_with_unlike_numbers(self):
        one = Book("ab", 2, [0], [1], [(0, "a", 1)])
        twice = Book("ab", 3, [0], [1, 2], [(0, "a", 1), (0, "a", 2)])
        self.assertIs(books_alike(one, twice), True)
        self.assertEqual(same_numbers(one, twice), "a")
        self.assertEqual(same_numbers(twice, one), "a")
        self.assertIsNone(same_numbers(twice, Book("ab", 3, [0, 1], [2], [(0, "a", 2), (1, "a", 2)])))

    def test_rings_of_different_lengths(self):
        self.assertEqual(same_numbers(ring("a", 7, [0]), ring("a", 6, [0])), "a" * 6)
        side = ring("a", 3, [0]) | ring("a", 4, [0])
        turned = ring("a", 4, [0]) | ring("a", 3, [0])
        self.assertIsNone(same_numbers(side, turned))
        self.assertEqual(same_numbers(side, ring("a", 2, [0]) | ring("a", 5, [0])), "aa")
        straight = Book("a", 7, [0], [6], [(p, "a", p + 1) for p in range(6)])
        self.assertEqual(same_numbers(straight, straight.with_ends([])), "a" * 6)
        short_cut = ring("a", 7, [0]) + (3, "a", 0)
        self.assertEqual(same_numbers(short_cut, ring("a", 7, [0])), "aaaa")

    def test_as_long_a_row_as_there_are_states_in_both(self):
        # Two books of seven states with unlike numbers have them by a row of 13 letters at most.
        one = Book("ab", 7, [0], [6], [(p, "a", p + 1) for p in range(6)] + [(6, "b", 0)])
        other = one - (6, "b", 0)
        self.assertEqual(same_numbers(one, other), "a" * 6 + "b" + "a" * 6)
        self.assertEqual(books_parting(one, other), "a" * 6 + "b" + "a" * 6)

    def test_great_numbers(self):
        full = full_book("ab", 7)
        self.assertIsNone(same_numbers(full, full))
        one = full - (3, "b", 4)
        self.assertIsNone(same_numbers(one, full - (3, "b", 5)))
        self.assertEqual(same_numbers(one, full), "b")
        self.assertEqual(same_numbers(full.with_starts([0]).with_ends([6]), full.with_starts([0, 1]).with_ends([6])),
                         "a")


class Wrong(Checks):
    def test_no_books(self):
        for call in CALLS:
            self.check_parameters(call, ("one", SOME_BOOK, NO_BOOKS, InvalidBook),
                                  ("other", SOME_BOOK, NO_BOOKS, InvalidBook))

    def test_other_letters(self):
        for call in CALLS:
            for letters in ["a", "b", "abc", "bc", "abcd"]:
                other = full_book(letters, 2)
                self.check_raises(OtherLetters, {"one": "ab", "other": letters}, call, SOME_BOOK, other)
                self.check_raises(OtherLetters, {"one": letters, "other": "ab"}, call, other, SOME_BOOK)
                self.check_raises(OtherLetters, {"one": letters, "other": "ab"}, call, other=SOME_BOOK, one=other)
                self.check_raises(InvalidBook, {"value": "ab"}, call, other, "ab")


if __name__ == "__main__":
    unittest.main()
