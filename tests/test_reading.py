"""What comes, runs, readings, sets, live and useful states."""

import inspect
import itertools
import random
import unittest

from fewheld.books import Book
from fewheld.errors import InvalidRow, InvalidSet
from fewheld.rows import number_of
from tests.helpers import (NO_ROWS, NO_SETS, SOME_BOOK, Checks, all_of, comes_by_hand, first_of, full_book, random_rows,
                           random_set, runs_by_hand, sample_books, short_rows)

EDGES = Book("ab", 3, [], [], [])


def tries(most_runs=20000):
    """Books with sets and rows for which all tuples of states can be gone through."""
    source = random.Random(3)
    for book in sample_books():
        for row in random_rows(source, book.letters, 5, 6):
            if book.size ** (len(row) + 1) <= most_runs:
                yield book, random_set(source, book.size), row


class Comes(Checks):
    def test_comes(self):
        for book, some, row in tries():
            self.assertEqual(book.comes(some, row), comes_by_hand(book, some, row))
            self.assertEqual(book.comes(row=row, some=tuple(some)), comes_by_hand(book, some, row))

    def test_the_book_called(self):
        for book, _, row in tries():
            self.assertEqual(book(row), comes_by_hand(book, book.starts, row))
            self.assertEqual(book(row=row), book(row))

    def test_edges(self):
        self.assertEqual(EDGES.comes([2, 0], ""), (0, 2))
        self.assertEqual(EDGES.comes([], ""), ())
        self.assertEqual(EDGES.comes([], "ab"), ())
        self.assertEqual(EDGES.comes([0, 1, 2], "a"), ())
        self.assertEqual(EDGES(""), ())
        self.assertEqual(full_book("abcd", 7).comes([6], "d" * 200), (0, 1, 2, 3, 4, 5, 6))

    def test_long_rows(self):
        book = Book("ab", 3, [0], [2], [(0, "a", 1), (1, "a", 2), (2, "a", 0), (0, "b", 0)])
        self.assertEqual(book("a" * 200), (2,))
        self.assertEqual(book("a" * 198 + "bb"), (0,))
        self.assertEqual(book("ab" * 100), ())
        self.assertEqual(book("aaa" * 100 + "a"), (1,))


class Reads(Checks):
    def test_reads(self):
        for book, some, row in tries():
            due = bool(runs_by_hand(book, some, row))
            self.assertIs(book.reads(some, row), due)
            self.assertIs(book.reads(row=row, some=some), due)

    def test_in(self):
        for book, _, row in tries():
            self.assertIs(row in book, bool(runs_by_hand(book, book.starts, row)))

    def test_the_empty_row(self):
        book = Book("ab", 3, [0, 1], [1], [])
        self.assertIs(book.reads([0], ""), False)
        self.assertIs(book.reads([2, 1], ""), True)
        self.assertIs(book.reads([], ""), False)
        self.assertIs("" in book, True)
        self.assertIs("" in EDGES, False)

    def test_no_other_value_is_in_a_book(self):
        everything = full_book("ab", 2)
        for value in NO_ROWS:
            self.assertIs(value in everything, False)
        self.assertIs("ab" in everything, True)
        self.assertIs((0, "a", 0) in everything, False)


class Runs(Checks):
    def test_runs(self):
        for book, some, row in tries():
            due = runs_by_hand(book, some, row)
            self.assertEqual(list(book.runs(some, row)), due)
            self.assertEqual(list(book.runs(row=row, some=tuple(some))), due)

    def test_readings(self):
        for book, _, row in tries():
            self.assertEqual(list(book.readings(row)), runs_by_hand(book, book.starts, row))
            self.assertEqual(list(book.readings(row=row)), list(book.readings(row)))

    def test_the_empty_row(self):
        book = Book("ab", 3, [2, 0, 1], [2, 0], [])
        self.assertEqual(list(book.runs([2, 1, 0], "")), [(0,), (2,)])
        self.assertEqual(list(book.runs([1], "")), [])
        self.assertEqual(list(book.runs([], "")), [])
        self.assertEqual(list(book.readings("")), [(0,), (2,)])
        self.assertEqual(list(EDGES.readings("")), [])

    def test_kinds(self):
        self.assertTrue(inspect.isgenerator(SOME_BOOK.runs([0], "a")))
        self.assertTrue(inspect.isgenerator(SOME_BOOK.readings("a")))
        for run in full_book("ab", 2).readings("ab"):
            self.assertIs(run.__class__, tuple)

    def test_long_rows_with_far_too_many_runs(self):
        book = full_book("ab", 7)
        found = list(itertools.islice(book.readings("ab" * 100), 8))
        self.assertEqual(found, [(0,) * 200 + (state,) for state in range(7)] + [(0,) * 199 + (1, 0)])

    def test_long_rows_with_far_too_many_dead_ways(self):
        # The states 1 to 5 go on in all ways, but lead nowhere.
        wide = [(p, "a", q) for p in range(6) for q in range(1, 6)]
        book = Book("ab", 7, [0], [6], wide + [(0, "a", 0), (0, "b", 6)])
        self.assertEqual(list(book.readings("a" * 199 + "b")), [(0,) * 200 + (6,)])
        self.assertEqual(list(book.readings("a" * 200)), [])


class Sets(Checks):
    def test_sets(self):
        for size in range(1, 8):
            due = [some for many in range(size + 1) for some in itertools.combinations(range(size), many)]
            book = Book("a", size, [0], [0])
            self.assertTrue(inspect.isgenerator(book.sets()))
            self.assertEqual(list(book.sets()), due)

    def test_live(self):
        for book in sample_books():
            rows = short_rows(book.letters, 3 if book.size > 4 else 4)
            live = book.live()
            self.assertEqual(live, tuple(sorted(set(live))))
            for state in range(book.size):
                if any(book.reads([state], row) for row in rows):
                    self.assertIn(state, live)
            # What is not live has no end, and leads to nothing that is live.
            for state in set(range(book.size)) - set(live):
                self.assertNotIn(state, book.ends)
                self.assertFalse([q for p, _, q in book.steps() if p == state and q in live])
            # What is live has an end, or leads to it without coming back.
            reach = {state: 0 for state in book.ends}
            for turn in range(1, book.size):
                for p, _, q in book.steps():
                    if q in reach and reach[q] < turn:
                        reach.setdefault(p, turn)
            self.assertEqual(live, tuple(sorted(reach)))

    def test_useful(self):
        for book in sample_books():
            come = set(book.starts)
            for _ in range(book.size):
                come = come | {q for p, _, q in book.steps() if p in come}
            self.assertEqual(book.useful(), tuple(state for state in book.live() if state in come))

    def test_live_and_useful_edges(self):
        steps = [(0, "a", 1), (1, "b", 2), (3, "a", 2), (0, "b", 4), (4, "b", 4)]
        book = Book("ab", 5, [0], [2], steps)
        self.assertEqual((book.live(), book.useful()), ((0, 1, 2, 3), (0, 1, 2)))
        self.assertEqual((book.with_starts([]).live(), book.with_starts([]).useful()), ((0, 1, 2, 3), ()))
        self.assertEqual((book.with_ends([]).live(), book.with_ends([]).useful()), ((), ()))
        self.assertEqual((EDGES.live(), EDGES.useful()), ((), ()))
        self.assertEqual(Book("a", 2, [0], [0]).useful(), (0,))

    def test_coming(self):
        for book in sample_books(30):
            found = book.coming()
            self.assertIs(found.__class__, list)
            sets = [some for _, some in found]
            self.assertEqual(len(sets), len(set(sets)))
            numbers = [number_of(book.letters, row) for row, _ in found]
            self.assertEqual(numbers, sorted(numbers))
            for row, some in found:
                self.assertEqual(some, comes_by_hand(book, book.starts, row))
            # Each set comes by its first row, as far as short rows tell.
            first = {}
            for row in short_rows(book.letters, 4):
                first.setdefault(book(row), row)
            short = {some: row for row, some in found if len(row) <= 4}
            self.assertEqual(short, first)
            for some in sets:
                for letter in book.letters:
                    self.assertIn(book.comes(some, letter), sets)

    def test_coming_edges(self):
        self.assertEqual(EDGES.coming(), [("", ())])
        self.assertEqual(Book("a", 1, [0]).coming(), [("", (0,)), ("a", ())])
        self.assertEqual(full_book("abcd", 7).coming(), [("", (0, 1, 2, 3, 4, 5, 6))])
        # This book turns, exchanges and drops states, so all sets come in it.
        turn = [(p, "a", (p + 1) % 7) for p in range(7)]
        swap = [(0, "b", 1), (1, "b", 0)] + [(p, "b", p) for p in range(2, 7)]
        drop = [(p, "c", p) for p in range(1, 7)]
        book = Book("abc", 7, range_list(7), [0], turn + swap + drop)
        self.assertEqual(sorted(some for _, some in book.coming()), sorted(book.sets()))


def range_list(many):
    """The numbers below."""
    return list(range(many))


class Wrong(Checks):
    def test_sets_are_checked_first(self):
        for value in NO_SETS:
            told = {"value": value}
            for call in [SOME_BOOK.comes, SOME_BOOK.reads, all_of(SOME_BOOK.runs), first_of(SOME_BOOK.runs)]:
                self.check_raises(InvalidSet, told, call, value, "a")
                self.check_raises(InvalidSet, told, call, value, None)
                self.check_raises(InvalidSet, told, call, row="c", some=value)

    def test_rows(self):
        for value in NO_ROWS:
            told = {"value": value}
            for call in [SOME_BOOK.comes, SOME_BOOK.reads, all_of(SOME_BOOK.runs), first_of(SOME_BOOK.runs)]:
                self.check_raises(InvalidRow, told, call, [0], value)
                self.check_raises(InvalidRow, told, call, row=value, some=())
            for call in [SOME_BOOK, all_of(SOME_BOOK.readings), first_of(SOME_BOOK.readings)]:
                self.check_raises(InvalidRow, told, call, value)
                self.check_raises(InvalidRow, told, call, row=value)

    def test_books_without_starts_raise_too(self):
        self.check_raises(InvalidRow, {"value": "c"}, EDGES, "c")
        self.check_raises(InvalidRow, {"value": "c"}, EDGES.comes, [], "c")
        self.check_raises(InvalidRow, {"value": "c"}, all_of(EDGES.readings), "c")

    def test_sets_of_the_greatest_book(self):
        book = Book("a", 7)
        self.assertEqual(book.comes([6, 0], ""), (0, 6))
        for value in [[7], [0, 1, 2, 3, 4, 5, 6, 6], [6, 7]]:
            self.check_raises(InvalidSet, {"value": value}, book.comes, value, "")


if __name__ == "__main__":
    unittest.main()
