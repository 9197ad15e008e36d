"""Books put together: | & ~ >> and <<."""

import unittest

from fewheld.books import Book
from fewheld.errors import InvalidBook, InvalidRow, OtherLetters, TooMany
from tests.helpers import (NO_BOOKS, NO_ROWS, SOME_BOOK, Checks, full_book, rows_to_try, runs_by_hand, sample_books,
                           short_rows)


def pairs_of_books():
    """Pairs of books over the same letters."""
    books = sample_books()
    return [(one, other) for one in books for other in books if one.letters == other.letters]


def both_by_hand(one, other):
    """The pairs that come of the pairs of starts, in the sequence in which they are found."""
    found = [(p, q) for p in one.starts for q in other.starts]
    for pair in found:
        for letter in one.letters:
            lead = sorted((p, q) for before, by, p in one.steps() if (before, by) == (pair[0], letter)
                          for beside, also, q in other.steps() if (beside, also) == (pair[1], letter))
            found.extend(new for new in lead if new not in found)
    return found


class Side(Checks):
    def test_states_starts_ends_steps(self):
        for one, other in pairs_of_books():
            size = one.size + other.size
            if size > 7:
                self.check_raises(TooMany, {"what": "states", "limit": 7}, lambda: one | other)
                continue
            made = one | other
            self.assertEqual((made.letters, made.size), (one.letters, size))
            self.assertEqual(made.starts, one.starts + tuple(q + one.size for q in other.starts))
            self.assertEqual(made.ends, one.ends + tuple(q + one.size for q in other.ends))
            self.assertEqual(made.steps(),
                             one.steps() + [(p + one.size, a, q + one.size) for p, a, q in other.steps()])

    def test_it_reads_what_one_of_them_reads(self):
        for one, other in pairs_of_books():
            if one.size + other.size <= 7:
                made = one | other
                for row in rows_to_try(one.letters):
                    self.assertIs(row in made, row in one or row in other)

    def test_seven_states(self):
        self.assertEqual((Book("a", 3) | Book("a", 4)).size, 7)
        self.check_raises(TooMany, {"what": "states", "limit": 7}, lambda: Book("a", 4) | Book("a", 4))
        self.check_raises(TooMany, {"what": "states", "limit": 7}, lambda: Book("a", 1) | Book("a", 7))

    def test_a_book_beside_itself(self):
        self.assertEqual(SOME_BOOK | SOME_BOOK, Book("ab", 4, [0, 2], [1, 3], [(0, "a", 1), (2, "a", 3)]))


class Both(Checks):
    def test_pairs(self):
        for one, other in pairs_of_books():
            found = both_by_hand(one, other)
            if len(found) > 7:
                self.check_raises(TooMany, {"what": "states", "limit": 7}, lambda: one & other)
                continue
            made = one & other
            if not found:
                self.assertEqual(made, Book(one.letters, 1))
                continue
            first, second = one.steps(), other.steps()
            self.assertEqual((made.letters, made.size), (one.letters, len(found)))
            self.assertEqual(made.starts, tuple(range(len(one.starts) * len(other.starts))))
            ends = [at for at, (p, q) in enumerate(found) if p in one.ends and q in other.ends]
            self.assertEqual(made.ends, tuple(ends))
            self.assertEqual(made.steps(), sorted(
                (at, a, to) for at, (p, q) in enumerate(found) for a in one.letters for to, (x, y) in enumerate(found)
                if (p, a, x) in first and (q, a, y) in second))

    def test_it_reads_what_both_read(self):
        many = 0
        for one, other in pairs_of_books():
            if len(both_by_hand(one, other)) <= 7:
                made = one & other
                many += 1
                for row in rows_to_try(one.letters):
                    self.assertIs(row in made, row in one and row in other)
        self.assertGreater(many, 50)

    def test_the_sequence_of_the_pairs(self):
        one = Book("ab", 3, [1], [0], [(1, "a", 2), (1, "b", 0), (2, "a", 0)])
        other = Book("ab", 2, [0], [1], [(0, "a", 0), (0, "a", 1), (0, "b", 1), (1, "a", 1)])
        # (1, 0); by a (2, 0), (2, 1); by b (0, 1); then (0, 0) behind (2, 0).
        self.assertEqual(one & other, Book("ab", 5, [0], [3], [
            (0, "a", 1), (0, "a", 2), (0, "b", 3), (1, "a", 3), (1, "a", 4), (2, "a", 3)]))

    def test_several_starts(self):
        one = Book("a", 2, [0, 1], [1], [])
        self.assertEqual(one & one, Book("a", 4, [0, 1, 2, 3], [3], []))

    def test_seven_pairs_and_eight(self):
        row = Book("a", 7, [0], [6], [(p, "a", p + 1) for p in range(6)])
        self.assertEqual(row & Book("a", 1, [0], [0], [(0, "a", 0)]), row)
        self.assertEqual(row & row, row)
        turn = Book("a", 4, [0], [0], [(p, "a", (p + 1) % 4) for p in range(4)])
        self.check_raises(TooMany, {"what": "states", "limit": 7},
                          lambda: turn & Book("a", 3, [0], [0], [(p, "a", (p + 1) % 3) for p in range(3)]))
        self.check_raises(TooMany, {"what": "states", "limit": 7}, lambda: full_book("ab", 7) & full_book("ab", 7))

    def test_pairs_that_do_not_come_are_not_counted(self):
        seven = Book("ab", 7, [0], [0], [(p, "b", q) for p in range(7) for q in range(7)])
        other = Book("ab", 7, [3], [3], [(p, "a", q) for p in range(7) for q in range(7)])
        self.assertEqual(seven & other, Book("ab", 1, [0], [0]))

    def test_no_pairs_of_starts(self):
        for one, other in [(Book("ab", 3), SOME_BOOK), (SOME_BOOK, Book("ab", 3)), (Book("ab", 7), Book("ab", 7))]:
            self.assertEqual(one & other, Book("ab", 1))


class Wrong(Checks):
    def test_other_values(self):
        for value in NO_BOOKS:
            self.check_raises(InvalidBook, {"value": value}, lambda: SOME_BOOK | value)
            self.check_raises(InvalidBook, {"value": value}, lambda: SOME_BOOK & value)

    def test_other_letters(self):
        for letters in ["a", "abc", "ac", "b"]:
            # Too many states would be told last.
            other = full_book(letters, 7)
            told = {"one": "ab", "other": letters}
            self.check_raises(OtherLetters, told, lambda: SOME_BOOK | other)
            self.check_raises(OtherLetters, told, lambda: SOME_BOOK & other)
            told = {"one": letters, "other": "ab"}
            self.check_raises(OtherLetters, told, lambda: other | SOME_BOOK)
            self.check_raises(OtherLetters, told, lambda: other & SOME_BOOK)

    def test_rows(self):
        for value in NO_ROWS:
            self.check_raises(InvalidRow, {"value": value}, lambda: SOME_BOOK << value)
            if not isinstance(value, Book):
                self.check_raises(InvalidRow, {"value": value}, lambda: value >> SOME_BOOK)


class Turned(Checks):
    def test_parts(self):
        for book in sample_books():
            made = ~book
            self.assertEqual((made.letters, made.size, made.starts, made.ends),
                             (book.letters, book.size, book.ends, book.starts))
            self.assertEqual(made.steps(), sorted((q, a, p) for p, a, q in book.steps()))
            self.assertEqual(~made, book)

    def test_it_reads_rows_turned_about(self):
        for book in sample_books():
            made = ~book
            for row in rows_to_try(book.letters):
                self.assertIs(row[::-1] in made, row in book)


class Shortened(Checks):
    def test_row_ahead(self):
        for book in sample_books():
            for row in short_rows(book.letters, 2):
                made = row >> book
                self.assertEqual(made, book.with_starts(book(row)))
                for rest in short_rows(book.letters, 2):
                    self.assertIs(rest in made, row + rest in book)

    def test_row_behind(self):
        for book in sample_books():
            for row in short_rows(book.letters, 2):
                made = book << row
                due = tuple(state for state in range(book.size) if runs_by_hand(book, [state], row))
                self.assertEqual(made, book.with_ends(due))
                for rest in short_rows(book.letters, 2):
                    self.assertIs(rest in made, rest + row in book)

    def test_the_empty_row(self):
        for book in sample_books():
            self.assertEqual("" >> book, book)
            self.assertEqual(book << "", book)

    def test_long_rows(self):
        turn = Book("ab", 7, [0], [0], [(p, "a", (p + 1) % 7) for p in range(7)])
        self.assertEqual("a" * 200 >> turn, turn.with_starts([4]))
        self.assertEqual(turn << "a" * 200, turn.with_ends([3]))
        self.assertEqual("a" * 199 + "b" >> turn, turn.with_starts([]))


if __name__ == "__main__":
    unittest.main()
