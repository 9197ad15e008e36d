"""Numbers of readings: of rows, spread, the greatest one, states at once, rows read twice."""

import itertools
import random
import unittest

from fewheld.books import Book
from fewheld.counts import at_once, degree, greatest, many_readings, spread, twice_read
from fewheld.errors import InvalidBook, InvalidCount, InvalidRow, TooMany
from tests.helpers import (NO_BOOKS, NO_COUNTS, NO_ROWS, SOME_BOOK, Checks, Number, found_by_hand, full_book,
                           random_book, ring, runs_by_hand, sample_books, short_rows)

BOOK = ("book", SOME_BOOK, NO_BOOKS, InvalidBook)
TWO = Book("a", 2, [0], [0, 1], [(0, "a", 0), (0, "a", 1), (1, "a", 0), (1, "a", 1)])
RISE = Book("a", 2, [0], [1], [(0, "a", 0), (0, "a", 1), (1, "a", 1)])
# All readings are of three letters.
BOUNDED = Book("ab", 6, [0], [5], [(0, "a", 1), (0, "b", 1), (0, "b", 2), (1, "a", 3), (1, "b", 3), (1, "b", 4),
                                   (2, "a", 3), (2, "b", 4), (3, "a", 5), (3, "b", 5), (4, "b", 5)])


def tallies_by_hand(book, most=None):
    """The tuples (first row, (number of readings,)) for all numbers of runs to the useful states, up to the most."""
    useful = book.useful()
    steps = [(p, a, q) for p, a, q in book.steps() if p in useful and q in useful]

    def onward(tally, letter):
        behind = [sum(tally[p] for p, a, q in steps if (a, q) == (letter, state)) for state in range(book.size)]
        return tuple(behind if most is None else [min(number, most) for number in behind])

    begin = tuple(int(state in book.starts and state in useful) for state in range(book.size))
    return [(row, sum(tally[end] for end in book.ends)) for row, tally in found_by_hand(book.letters, begin, onward)]


def many_books(many=400, letters="ab", size=3, seed=5):
    """Small books of one kind."""
    source = random.Random(seed)
    return [random_book(source, letters, size) for _ in range(many)]


class ManyReadings(Checks):
    def test_all_short_rows(self):
        for book in sample_books():
            for row in short_rows(book.letters, 3):
                if book.size ** (len(row) + 1) < 2000:
                    due = len(runs_by_hand(book, book.starts, row))
                    self.assertEqual(many_readings(book, row), due)
                    self.assertEqual(many_readings(row=row, book=book), due)

    def test_great_numbers(self):
        self.assertEqual(many_readings(TWO, "a" * 200), 2 ** 200)
        self.assertEqual(many_readings(full_book("abcd", 7), "abcd" * 50), 7 ** 201)
        self.assertEqual(many_readings(RISE, "a" * 200), 200)
        self.assertEqual(many_readings(TWO, "a" * 400), 2 ** 400)

    def test_edges(self):
        self.assertEqual(many_readings(Book("a", 1), ""), 0)
        self.assertEqual(many_readings(Book("a", 1, [0], [0]), ""), 1)
        self.assertEqual(many_readings(Book("a", 1, [0], [0]), "a"), 0)
        self.assertEqual(many_readings(Book("ab", 7, [0, 3, 4], [3, 4, 5]), ""), 2)
        self.assertEqual(many_readings(full_book("ab", 3).with_starts([]), "ab"), 0)

    def test_wrong(self):
        self.check_parameters(many_readings, BOOK, ("row", "ab", NO_ROWS, InvalidRow))


class Spread(Checks):
    def test_all_rows_of_a_length(self):
        for book in sample_books():
            for length in range(4):
                due = {}
                for row in itertools.product(book.letters, repeat=length):
                    number = many_readings(book, "".join(row))
                    due[number] = due.get(number, 0) + 1
                found = spread(book, length)
                self.assertEqual(list(found.items()), sorted(due.items()))
                self.assertEqual(spread(length=length, book=book), found)
                self.assertEqual(sum(found.values()), len(book.letters) ** length)

    def test_six_letters(self):
        self.assertEqual(spread(TWO, 6), {64: 1})
        self.assertEqual(spread(Book("abcd", 7), 6), {0: 4096})
        self.assertEqual(spread(full_book("abcd", 7), 6), {7 ** 7: 4096})
        self.assertEqual(spread(SOME_BOOK, 0), {0: 1})
        self.assertEqual(spread(SOME_BOOK, 1), {0: 1, 1: 1})
        self.assertEqual(spread(SOME_BOOK, 6), {0: 64})
        either = Book("ab", 2, [0], [1], [(0, a, q) for a in "ab" for q in range(2)] + [(1, "b", 1)])
        due = {}
        for row in itertools.product("ab", repeat=6):
            number = many_readings(either, "".join(row))
            due[number] = due.get(number, 0) + 1
        self.assertEqual(list(spread(either, 6).items()), sorted(due.items()))
        self.assertGreater(len(due), 5)

    def test_seven_letters(self):
        for length in [7, 8, 200, 10 ** 29]:
            self.check_raises(TooMany, {"what": "letters", "limit": 6}, spread, SOME_BOOK, length)
            self.check_raises(TooMany, {"what": "letters", "limit": 6}, spread, length=length, book=SOME_BOOK)
            self.check_raises(InvalidBook, {"value": "ab"}, spread, "ab", length)

    def test_wrong(self):
        self.check_parameters(spread, BOOK, ("length", 2, NO_COUNTS, InvalidCount))
        self.assertEqual(spread(SOME_BOOK, Number.ONE), {0: 1, 1: 1})

    def test_the_dict_is_new(self):
        spread(SOME_BOOK, 1).clear()
        self.assertEqual(spread(SOME_BOOK, 1), {0: 1, 1: 1})


class Greatest(Checks):
    def test_all_numbers_of_runs(self):
        great = bounded = 0
        for book in many_books() + many_books(60, "abc", 4) + many_books(40, "a", 5) + sample_books(200):
            found = greatest(book)
            self.assertEqual(greatest(book=book), found)
            if degree(book) != 0:
                self.assertIsNone(found)
                continue
            tallies = tallies_by_hand(book)
            number = max(number for _, number in tallies)
            self.assertEqual(found, (number, next(row for row, many in tallies if many == number)))
            bounded += 1
            great += number > 1
        self.assertGreater(bounded, 200)
        self.assertGreater(great, 30)

    def test_all_short_rows(self):
        for book in many_books(300, "ab", 3, 9):
            found = greatest(book)
            if found is not None:
                for row in short_rows("ab", 5):
                    self.assertLessEqual(many_readings(book, row), found[0])
                    if (len(row), row) < (len(found[1]), found[1]):
                        self.assertLess(many_readings(book, row), found[0])
                self.assertEqual(many_readings(book, found[1]), found[0])

    def test_books_of_seven_states_whose_steps_lead_upward(self):
        source = random.Random(77)
        for _ in range(60):
            steps = [(p, a, q) for p in range(7) for a in "abc" for q in range(p + 1, 7) if source.random() < 0.5]
            steps = steps + [(p, a, p) for p in range(7) for a in "abc" if source.random() < 0.15]
            book = Book("abc", 7, [0, 1], [5, 6], steps)
            if degree(book) == 0:
                tallies = tallies_by_hand(book)
                number = max(number for _, number in tallies)
                self.assertEqual(greatest(book), (number, next(row for row, many in tallies if many == number)))

    def test_edges(self):
        self.assertEqual(greatest(Book("a", 1)), (0, ""))
        self.assertEqual(greatest(Book("abcd", 7)), (0, ""))
        self.assertEqual(greatest(Book("ab", 7, [2, 3, 4], [4, 3, 2])), (3, ""))
        self.assertEqual(greatest(full_book("ab", 3).with_ends([])), (0, ""))
        self.assertEqual(greatest(full_book("ab", 3).with_starts([])), (0, ""))
        self.assertIsNone(greatest(TWO))
        self.assertIsNone(greatest(RISE))
        self.assertEqual(greatest(ring("a", 7, [4])), (1, "aaaa"))

    def test_first_row(self):
        self.assertEqual(greatest(BOUNDED), (3, "bbb"))
        self.assertEqual(greatest(BOUNDED.with_starts([0, 1])), (3, "bbb"))
        self.assertEqual(greatest(BOUNDED.with_ends([3])), (2, "ba"))
        # The rows "b" and "c" are both read twice.
        book = Book("abc", 3, [0], [1, 2], [(0, a, q) for a in "bc" for q in [1, 2]] + [(0, "a", 1)])
        self.assertEqual(greatest(book), (2, "b"))

    def test_a_long_row(self):
        # Two rings are at their ends at once behind 11 letters.
        rings = Book("a", 7, [0, 3], [2, 6], [(0, "a", 1), (1, "a", 2), (2, "a", 0), (3, "a", 4), (4, "a", 5),
                                              (5, "a", 6), (6, "a", 3)])
        self.assertEqual(greatest(rings), (2, "a" * 11))
        self.assertEqual(twice_read(rings), "a" * 11)

    def test_states_that_nothing_comes_of(self):
        # What doubles is not useful: no end comes of 1, and 3 does not come.
        book = Book("a", 4, [0], [2], [(0, "a", 1), (1, "a", 1), (0, "a", 2), (3, "a", 3), (3, "a", 2)])
        self.assertEqual(greatest(book), (1, "a"))
        two = Book("ab", 4, [0], [3], [(0, "a", 1), (0, "a", 2), (1, "a", 1), (1, "a", 2), (2, "a", 1), (2, "a", 2),
                                       (0, "b", 3)])
        self.assertEqual(greatest(two), (1, "b"))

    def test_wrong(self):
        self.check_parameters(greatest, BOOK)


class AtOnce(Checks):
    def test_all_sets_that_come(self):
        for book in sample_books() + many_books(100):
            useful = set(book.useful())
            numbers = [(row, len(useful & set(some))) for row, some in book.coming()]
            number = max(many for _, many in numbers)
            due = (number, next(row for row, many in numbers if many == number))
            self.assertEqual(at_once(book), due)
            self.assertEqual(at_once(book=book), due)

    def test_edges(self):
        self.assertEqual(at_once(Book("a", 1)), (0, ""))
        self.assertEqual(at_once(Book("a", 2, [0, 1])), (0, ""))
        self.assertEqual(at_once(full_book("abcd", 7)), (7, ""))
        self.assertEqual(at_once(full_book("abcd", 7).with_starts([4])), (7, "a"))
        self.assertEqual(at_once(ring("ab", 7, [0])), (1, ""))
        # 1 and 2 come by "a", but only 2 is live.
        self.assertEqual(at_once(Book("a", 3, [0], [2], [(0, "a", 1), (0, "a", 2)])), (1, ""))

    def test_wrong(self):
        self.check_parameters(at_once, BOOK)


class TwiceRead(Checks):
    def test_all_numbers_of_runs_up_to_two(self):
        twice = never = 0
        for book in many_books() + many_books(100, "abc", 4) + many_books(60, "a", 6) + sample_books():
            due = next((row for row, many in tallies_by_hand(book, 2) if many > 1), None)
            self.assertEqual(twice_read(book), due)
            self.assertEqual(twice_read(book=book), due)
            never += due is None
            twice += due is not None and len(due) > 1
        self.assertGreater(never, 100)
        self.assertGreater(twice, 30)

    def test_all_short_rows(self):
        for book in many_books(200, "ab", 3, 4):
            found = twice_read(book)
            for row in short_rows("ab", 5):
                ahead = found is None or (len(row), row) < (len(found), found)
                self.assertFalse(ahead and many_readings(book, row) > 1)
            if found is not None:
                self.assertGreater(many_readings(book, found), 1)

    def test_edges(self):
        self.assertIsNone(twice_read(Book("abcd", 7)))
        self.assertIsNone(twice_read(SOME_BOOK))
        self.assertEqual(twice_read(full_book("ab", 2)), "")
        self.assertEqual(twice_read(RISE), "aa")
        self.assertIsNone(twice_read(ring("ab", 7, [0, 1, 2, 3, 4, 5, 6])))

    def test_wrong(self):
        self.check_parameters(twice_read, BOOK)


if __name__ == "__main__":
    unittest.main()
