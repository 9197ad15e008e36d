"""Readers: letters that come and are taken back, other rules, copies, trials."""

import random
import unittest

from fewheld.alike import missing
from fewheld.books import Book
from fewheld.errors import InvalidBook, InvalidCount, InvalidRow, InvalidRule, NothingToTake, OtherSize
from fewheld.readers import ListRule, Plan, Reader
from tests.helpers import (NO_BOOKS, NO_COUNTS, NO_ROWS, NO_RULES, SOME_BOOK, Checks, Number, begun_by_hand, full_book,
                           held_by_hand, random_rows, random_rules, ring, sample_books)

RULE = ListRule([1, 0], 1)
WIDE = Book("ab", 6, [0, 1], [5], [(0, "a", 2), (1, "a", 3), (1, "a", 4), (2, "a", 5), (2, "b", 5), (3, "a", 5),
                                   (4, "a", 5)])
ORDER = [0, 1, 3, 4, 2, 5]


class Planned(Exception):
    """An error that the package does not know."""


def told(reader):
    """All that a reader tells."""
    return (reader.book, reader.rule, reader.row, reader.held, reader.whole, reader.at_end, len(reader),
            reader.missing())


def taken_by_hand(book, rule, row):
    """What the rule holds behind the row."""
    held = begun_by_hand(book, rule)
    for letter in row:
        held = held_by_hand(book, rule, held, letter)
    return held


class Reading(Checks):
    def check_reader(self, reader, book, rule, row):
        """The reader is behind this row by this rule."""
        held = taken_by_hand(book, rule, row)
        self.assertIs(reader.book, book)
        self.assertIs(reader.rule, rule)
        self.assertEqual(reader.row, row)
        self.assertIs(reader.row.__class__, str)
        self.assertEqual(reader.held, held)
        self.assertEqual(reader.whole, book(row))
        self.assertIs(reader.at_end, bool(set(held) & set(book.ends)))
        self.assertEqual(len(reader), len(row))
        self.assertEqual(reader.missing(), missing(book, reader.whole, held))

    def test_letters_that_come_and_are_taken_back(self):
        source = random.Random(29)
        for book in sample_books():
            for rule in random_rules(source, book):
                reader = same = Reader(book, rule)
                row = ""
                self.check_reader(reader, book, rule, row)
                for more in random_rows(source, book.letters, 3, 5):
                    reader += more
                    row += more
                    self.assertIs(reader, same)
                    self.check_reader(reader, book, rule, row)
                    many = source.randint(0, len(row))
                    reader -= many
                    row = row[:len(row) - many]
                    self.assertIs(reader, same)
                    self.check_reader(reader, book, rule, row)

    def test_other_rules(self):
        source = random.Random(13)
        for book in sample_books():
            first, second = random_rules(source, book)
            third, fourth = random_rules(source, book)
            reader = Reader(book, first)
            row = random_rows(source, book.letters, 1, 6)[0]
            reader += row
            reader.rule = second
            self.check_reader(reader, book, second, row)
            self.assertIsNone(reader.set_rule(third))
            self.check_reader(reader, book, third, row)
            reader.set_rule(rule=fourth)
            self.check_reader(reader, book, fourth, row)
            reader += book.letters
            self.check_reader(reader, book, fourth, row + book.letters)
            reader -= len(book.letters) + len(row)
            self.check_reader(reader, book, fourth, "")

    def test_by_name(self):
        self.check_reader(Reader(rule=RULE, book=SOME_BOOK), SOME_BOOK, RULE, "")

    def test_a_reader_has_no_other_operators(self):
        reader = Reader(SOME_BOOK, RULE)
        for name in ["book", "row", "held", "whole", "at_end"]:
            with self.assertRaises(AttributeError):
                setattr(reader, name, getattr(reader, name))
        self.assertNotEqual(Reader(SOME_BOOK, RULE), reader)

    def test_nothing_held(self):
        reader = Reader(Book("ab", 7), ListRule(list(range(7)), 3))
        reader += "abba"
        self.assertEqual(told(reader)[3:], ((), (), False, 4, None))
        reader = Reader(full_book("ab", 3), ListRule([0, 1, 2], 0))
        reader += "ab"
        self.assertEqual(told(reader)[3:], ((), (0, 1, 2), False, 2, ""))

    def test_missing(self):
        reader = Reader(WIDE, ListRule(ORDER, 2))
        self.assertEqual((reader.held, reader.missing()), ((0, 1), None))
        reader += "a"
        self.assertEqual((reader.held, reader.whole, reader.missing()), ((3, 4), (2, 3, 4), "b"))
        reader += "b"
        self.assertEqual((reader.held, reader.whole, reader.missing(), reader.at_end), ((), (5,), "", False))
        reader.rule = ListRule(ORDER, 1)
        self.assertEqual((reader.held, reader.whole, reader.missing(), reader.at_end), ((5,), (5,), None, True))
        rings = Book("a", 7, [0, 3], [0, 4, 5, 6], [(0, "a", 1), (1, "a", 2), (2, "a", 0), (3, "a", 4), (4, "a", 5),
                                                    (5, "a", 6), (6, "a", 3)])
        reader = Reader(rings, ListRule([3, 4, 5, 6, 0, 1, 2], 1))
        reader += "a"
        self.assertEqual(reader.missing(), "a" * 11)

    def test_the_empty_row_and_none_taken_back(self):
        reader = Reader(SOME_BOOK, RULE)
        reader += ""
        reader -= 0
        self.check_reader(reader, SOME_BOOK, RULE, "")
        reader += "a"
        reader += ""
        reader -= 0
        self.check_reader(reader, SOME_BOOK, RULE, "a")

    def test_integers_and_strings_of_derived_classes(self):
        class Text(str):
            pass

        reader = Reader(SOME_BOOK, RULE)
        reader += Text("ab")
        self.check_reader(reader, SOME_BOOK, RULE, "ab")
        reader -= Number.ONE
        self.check_reader(reader, SOME_BOOK, RULE, "a")

    def test_two_thousand_letters(self):
        book = ring("ab", 7, [3])
        reader = Reader(book, ListRule([6, 5, 4, 3, 2, 1, 0], 1))
        for _ in range(20):
            reader += "ab" * 50
        self.assertEqual((len(reader), reader.row, reader.held, reader.whole),
                         (2000, "ab" * 1000, (2000 % 7,), (2000 % 7,)))
        for many in range(100):
            reader -= 3
            self.assertEqual(reader.held, ((2000 - 3 * many - 3) % 7,))
        reader.rule = ListRule(list(range(7)), 0)
        self.assertEqual((reader.held, reader.whole), ((), (1700 % 7,)))
        with reader.trial():
            reader -= 1700
            self.assertEqual(reader.row, "")
        self.assertEqual(len(reader), 1700)


class Wrong(Checks):
    def test_readers(self):
        self.check_parameters(Reader, ("book", SOME_BOOK, NO_BOOKS, InvalidBook), ("rule", RULE, NO_RULES, InvalidRule))

    def test_other_size(self):
        for size in [1, 3, 7]:
            rule = ListRule(list(range(size)), 1)
            told_sizes = {"one": 2, "other": size}
            self.check_raises(OtherSize, told_sizes, Reader, SOME_BOOK, rule)
            self.check_raises(OtherSize, told_sizes, Reader, rule=rule, book=SOME_BOOK)
            reader = self.begun()
            before = told(reader)
            self.check_raises(OtherSize, told_sizes, reader.set_rule, rule)
            self.check_raises(OtherSize, told_sizes, setattr, reader, "rule", rule)
            self.assertEqual(told(reader), before)

    def begun(self):
        """A reader that has read some letters."""
        reader = Reader(SOME_BOOK, RULE)
        reader += "aab"
        return reader

    def test_no_rules(self):
        for value in NO_RULES:
            reader = self.begun()
            before = told(reader)
            self.check_raises(InvalidRule, {"value": value}, reader.set_rule, value)
            self.check_raises(InvalidRule, {"value": value}, reader.set_rule, rule=value)
            self.check_raises(InvalidRule, {"value": value}, setattr, reader, "rule", value)
            self.assertEqual(told(reader), before)

    def test_no_rows(self):
        def put(reader, row):
            reader += row

        for value in NO_ROWS:
            reader = self.begun()
            before = told(reader)
            self.check_raises(InvalidRow, {"value": value}, put, reader, value)
            self.assertEqual(told(reader), before)

    def test_no_counts_and_nothing_to_take(self):
        def take(reader, many):
            reader -= many

        for value in NO_COUNTS:
            reader = self.begun()
            before = told(reader)
            self.check_raises(InvalidCount, {"value": value}, take, reader, value)
            self.assertEqual(told(reader), before)
        for many in [4, 5, 10 ** 29]:
            self.check_raises(NothingToTake, {}, take, reader, many)
            self.assertEqual(told(reader), before)
        reader -= 3
        self.check_raises(NothingToTake, {}, take, reader, 1)
        self.assertEqual((reader.row, reader.held), ("", (0,)))


class Copies(Checks):
    def test_each_goes_its_own_way(self):
        reader = Reader(WIDE, ListRule(ORDER, 2))
        reader += "a"
        other = reader.copy()
        self.assertIsNot(other, reader)
        self.assertIs(other.__class__, Reader)
        self.assertEqual(told(other), told(reader))
        before = told(reader)
        other += "b"
        other.rule = Plan([0], {})
        self.assertEqual(told(reader), before)
        behind = told(other)
        reader -= 1
        self.assertEqual(told(other), behind)
        self.assertEqual((behind[2], behind[3]), ("ab", ()))

    def test_a_copy_in_a_trial_is_not_taken_back(self):
        reader = Reader(WIDE, ListRule(ORDER, 2))
        with reader.trial():
            reader += "a"
            other = reader.copy()
            other += "a"
        self.assertEqual((reader.row, other.row), ("", "aa"))
        with other.trial():
            other -= 2
        self.assertEqual((reader.row, other.row), ("", "aa"))


class Trials(Checks):
    def setUp(self):
        self.reader = Reader(WIDE, ListRule(ORDER, 2))
        self.reader += "a"
        self.before = told(self.reader)

    def test_letters_and_rule_are_as_they_were(self):
        reader = self.reader
        with reader.trial() as inside:
            self.assertIs(inside, reader)
            self.assertEqual(told(inside), self.before)
            inside += "b"
            inside.rule = Plan([0], {})
            self.assertEqual((reader.row, reader.held), ("ab", ()))
        self.assertEqual(told(reader), self.before)
        with reader.trial():
            reader -= 1
            reader.set_rule(ListRule(ORDER, 1))
            reader += "aab"
        self.assertEqual(told(reader), self.before)
        self.assertIs(reader.rule, self.before[1])

    def test_it_goes_on_behind(self):
        with self.reader.trial() as inside:
            inside += "b"
        self.reader += "a"
        self.assertEqual((self.reader.row, self.reader.held), ("aa", (5,)))
        self.reader -= 2
        self.assertEqual((self.reader.row, self.reader.held), ("", (0, 1)))

    def test_trials_in_trials(self):
        reader = self.reader
        with reader.trial() as inside:
            inside += "a"
            middle = told(reader)
            for row in ["a", "b", ""]:
                with inside.trial() as further:
                    self.assertIs(further, reader)
                    further += row
                    further.rule = ListRule(ORDER, 6)
                    with further.trial():
                        further -= 2
                    self.assertEqual(reader.row, "aa" + row)
                self.assertEqual(told(reader), middle)
            inside -= 2
        self.assertEqual(told(reader), self.before)
        with reader.trial(), reader.trial():
            reader += "a"
        self.assertEqual(told(reader), self.before)

    def test_its_beginning_is_that_of_the_with(self):
        reader = self.reader
        trial = reader.trial()
        reader += "a"
        before = told(reader)
        for _ in range(2):
            with trial as inside:
                self.assertIs(inside, reader)
                reader -= 2
                with trial:
                    reader += "b"
                self.assertEqual(reader.row, "")
            self.assertEqual(told(reader), before)

    def test_errors_go_through(self):
        reader = self.reader
        for error in [Planned, KeyError, StopIteration, KeyboardInterrupt]:
            with self.assertRaises(error):
                with reader.trial():
                    reader += "b"
                    with reader.trial():
                        reader.rule = ListRule(ORDER, 0)
                        raise error()
            self.assertEqual(told(reader), self.before)
        with self.assertRaises(InvalidRow):
            with reader.trial():
                reader += "a"
                reader += "c"
        self.assertEqual(told(reader), self.before)

    def test_an_error_that_is_caught_inside(self):
        reader = self.reader
        with reader.trial():
            reader += "a"
            middle = told(reader)
            with self.assertRaises(Planned):
                with reader.trial():
                    reader += "b"
                    raise Planned()
            self.assertEqual(told(reader), middle)
        self.assertEqual(told(reader), self.before)

    def test_a_way_out(self):
        def leave(reader):
            with reader.trial():
                reader += "b"
                return told(reader)

        self.assertEqual(leave(self.reader)[2], "ab")
        self.assertEqual(told(self.reader), self.before)

    def test_tried_by(self):
        def deed(reader):
            self.assertIs(reader, self.reader)
            self.assertEqual(told(reader), self.before)
            reader += "b"
            reader.rule = ListRule(ORDER, 6)
            return [reader, reader.held]

        found = self.reader.tried_by(deed)
        self.assertIs(found[0], self.reader)
        self.assertEqual(found[1], (5,))
        self.assertEqual(told(self.reader), self.before)
        self.assertEqual(self.reader.tried_by(deed=len), 1)
        self.assertIsNone(self.reader.tried_by(lambda reader: None))
        kept = [1, [2]]
        self.assertIs(self.reader.tried_by(lambda reader: kept), kept)

    def test_tried_by_in_trials(self):
        def deed(reader):
            reader += "a"
            inside = reader.tried_by(lambda same: deeper(same))
            return inside, reader.row

        def deeper(reader):
            reader -= 2
            return reader.row

        self.assertEqual(self.reader.tried_by(deed), ("", "aa"))
        self.assertEqual(told(self.reader), self.before)

    def test_tried_by_a_deed_that_fails(self):
        def deed(reader):
            reader += "b"
            reader.rule = Plan([], {})
            raise Planned()

        with self.assertRaises(Planned):
            self.reader.tried_by(deed)
        self.assertEqual(told(self.reader), self.before)
        with self.assertRaises(NothingToTake):
            self.reader.tried_by(lambda reader: reader.__isub__(2))
        self.assertEqual(told(self.reader), self.before)


if __name__ == "__main__":
    unittest.main()
