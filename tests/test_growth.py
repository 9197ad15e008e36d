"""Doublings, rises, chains and the degree."""

import functools
import itertools
import random
import unittest

from fewheld.books import Book
from fewheld.counts import chain, degree, doubling, greatest, is_chain, is_doubling, many_readings
from fewheld.errors import InvalidBook, InvalidCount, TooMany
from fewheld.rows import is_row
from tests.helpers import (NO_BOOKS, NO_COUNTS, NO_INTEGERS, NO_LISTS, NO_STRINGS, SOME_BOOK, Alike, Checks, Number,
                           Own, Touchy, comes_by_hand, full_book, random_book, ring, sample_books, short_rows)

TWO = Book("a", 2, [0], [0, 1], [(0, "a", 0), (0, "a", 1), (1, "a", 0), (1, "a", 1)])
RISE = Book("a", 2, [0], [1], [(0, "a", 0), (0, "a", 1), (1, "a", 1)])
# Each state leads to itself and to the next one.
STAIRS = Book("a", 7, [0], [6], [(p, "a", p) for p in range(7)] + [(p, "a", p + 1) for p in range(6)])
BOOK = ("book", SOME_BOOK, NO_BOOKS, InvalidBook)


def matrices(book):
    """For all rows, from which states to which ones they lead by no run, one, or more; None if these are too many."""
    size = book.size
    one = {a: tuple(tuple(int((p, a, q) in book.steps()) for q in range(size)) for p in range(size))
           for a in book.letters}
    found = [tuple(tuple(int(p == q) for q in range(size)) for p in range(size))]
    seen = set(found)
    for here in found:
        for letter in book.letters:
            behind = tuple(tuple(min(2, sum(here[p][x] * one[letter][x][q] for x in range(size)))
                                 for q in range(size)) for p in range(size))
            if behind not in seen:
                seen.add(behind)
                found.append(behind)
        if len(found) > 1500:
            return None
    return found


def degree_by_hand(book, found):
    """The degree, found from what all rows do; None if there is a doubling."""
    useful = book.useful()
    if any(here[p][p] > 1 for here in found for p in useful):
        return None
    rises = [(p, q) for p in useful for q in useful if p != q
             and any(here[p][p] and here[p][q] and here[q][q] for here in found)]
    leads = {(p, q): any(here[p][q] for here in found) for p in useful for q in useful}
    chains = [[rise] for rise in rises]
    many = 0
    while chains and many < 6:
        many += 1
        chains = [done + [rise] for done in chains for rise in rises if leads[(done[-1][1], rise[0])]]
    return many


def upward_book(source):
    """A book whose steps lead from no state to one with a lesser number."""
    steps = [(p, a, q) for p in range(4) for a in "ab" for q in range(p, 4)
             if source.random() < (0.8 if p == q else 0.25)]
    return Book("ab", 4, [0], [3], steps)


@functools.lru_cache(None)
def tries():
    """Small books, each with what all rows do in it."""
    source = random.Random(41)
    books = [random_book(source, source.choice(["a", "ab"]), source.choice([2, 3, 4])) for _ in range(200)]
    books = books + [upward_book(source) for _ in range(80)] + [book for book in sample_books() if book.size < 5]
    found = [(book, matrices(book)) for book in books]
    return [(book, told) for book, told in found if told is not None]


def leads(book, low, row, high):
    """Whether the row leads from the one state to the other one."""
    return high in comes_by_hand(book, [low], row)


def chain_holds(book, value, many):
    """Whether the value is a chain of so many rises."""
    rows, rises = value
    good = len(rows) == many + 1 and len(rises) == many
    good = good and all(is_row(book.letters, row) for row in rows)
    for low, lap, high in rises:
        good = good and low != high and leads(book, low, lap, low) and leads(book, low, lap, high)
        good = good and leads(book, high, lap, high)
    froms = [book.starts] + [(high,) for _, _, high in rises]
    goals = [(low,) for low, _, _ in rises] + [book.ends]
    return good and all(any(leads(book, low, row, high) for low in some for high in ends)
                        for some, row, ends in zip(froms, rows, goals))


class Doubling(Checks):
    def test_all_that_rows_do(self):
        doubles = 0
        for book, found in tries():
            value = doubling(book)
            self.assertEqual(doubling(book=book), value)
            if degree_by_hand(book, found) is not None:
                self.assertIsNone(value)
                continue
            doubles += 1
            before, state, lap, behind = value
            self.assertIsInstance(value, tuple)
            self.assertTrue(any(leads(book, start, before, state) for start in book.starts))
            self.assertTrue(any(leads(book, state, behind, end) for end in book.ends))
            self.assertGreater(many_readings(book.with_starts([state]).with_ends([state]), lap), 1)
            self.assertIs(is_doubling(book, value), True)
            self.assertGreaterEqual(many_readings(book, before + lap * 4 + behind), 16)
        self.assertGreater(doubles, 40)

    def test_edges(self):
        for book in [Book("a", 1), Book("abcd", 7), SOME_BOOK, RISE, STAIRS, ring("ab", 7, [0]),
                     full_book("ab", 3).with_starts([]), full_book("ab", 3).with_ends([])]:
            self.assertIsNone(doubling(book))
        for book in [TWO, full_book("a", 2), full_book("abcd", 7)]:
            self.assertIs(is_doubling(book, doubling(book)), True)

    def test_a_long_round(self):
        # From 0 two rings go back to 0 that have 3 and 4 letters: 12 letters are
        # gone by both, and 7 by the one and then the other.
        book = Book("a", 6, [0], [0], [(0, "a", 1), (1, "a", 2), (2, "a", 0), (0, "a", 3), (3, "a", 4), (4, "a", 5),
                                       (5, "a", 0)])
        self.assertEqual(degree(book), None)
        self.assertIs(is_doubling(book, ("", 0, "a" * 7, "")), True)
        self.assertIs(is_doubling(book, ("", 0, "a" * 6, "")), False)
        self.assertIs(is_doubling(book, doubling(book)), True)

    def test_several_starts_and_ends(self):
        # Only 2 comes to what doubles, and only 4 comes of it.
        book = Book("ab", 6, [0, 2], [1, 4], [(0, "a", 1), (2, "b", 3), (3, "a", 3), (3, "a", 5), (5, "a", 3),
                                              (3, "b", 4)])
        self.assertIs(is_doubling(book, doubling(book)), True)
        for rises in range(7):
            self.assertTrue(chain_holds(book, chain(book, rises), rises))

    def test_useful_states_alone(self):
        # 1 and 2 lead to each other and to themselves; 1 comes only by the last two books, and is left by the last one.
        steps = [(p, "a", q) for p in [1, 2] for q in [1, 2]]
        self.assertIsNone(doubling(Book("ab", 4, [0], [3], steps + [(0, "b", 3), (1, "b", 3)])))
        self.assertIsNone(doubling(Book("ab", 4, [0], [3], steps + [(0, "b", 3), (0, "b", 1)])))
        book = Book("ab", 4, [0], [3], steps + [(0, "b", 1), (2, "b", 3)])
        self.assertIs(is_doubling(book, doubling(book)), True)
        self.assertIs(is_doubling(book, ("b", 1, "aa", "ab")), True)

    def test_wrong(self):
        self.check_parameters(doubling, BOOK)
        self.check_parameters(degree, BOOK)


class Degree(Checks):
    def test_all_that_rows_do(self):
        found_degrees = []
        for book, found in tries():
            due = degree_by_hand(book, found)
            self.assertEqual(degree(book), due)
            self.assertEqual(degree(book=book), due)
            self.assertIs(greatest(book) is None, due != 0)
            found_degrees.append(due)
        for due in [None, 0, 1, 2, 3]:
            self.assertGreater(found_degrees.count(due), 3)

    def test_stairs(self):
        for many in range(7):
            self.assertEqual(degree(STAIRS.with_ends([many])), many)
            self.assertEqual(degree(STAIRS.with_starts([6 - many])), many)
        self.assertEqual(degree(STAIRS + (6, "a", 0)), None)
        self.assertEqual(degree(STAIRS - (3, "a", 3)), 5)
        self.assertEqual(degree(STAIRS - (3, "a", 4)), 0)
        self.assertEqual(many_readings(STAIRS, "a" * 60), 50063860)

    def test_growth(self):
        # The greatest numbers of readings grow as the length to the power of the degree.
        for many in range(1, 4):
            book = STAIRS.with_ends([many])
            first, second = many_readings(book, "a" * 60), many_readings(book, "a" * 120)
            self.assertLess(2 ** many * first // 2, second)
            self.assertLess(second, 2 ** many * first * 2)

    def test_edges(self):
        self.assertEqual(degree(Book("a", 1)), 0)
        self.assertEqual(degree(Book("abcd", 7)), 0)
        self.assertEqual(degree(STAIRS.with_starts([])), 0)
        self.assertEqual(degree(STAIRS.with_ends([])), 0)
        self.assertEqual(degree(ring("ab", 7, [3])), 0)
        self.assertIsNone(degree(full_book("abcd", 7)))

    def test_a_long_round(self):
        # Two rings of three and of four states; the second one is entered from each state of the first one.
        rings = [(0, "a", 1), (1, "a", 2), (2, "a", 0), (3, "a", 4), (4, "a", 5), (5, "a", 6), (6, "a", 3)]
        book = Book("a", 7, [0], [3], rings + [(2, "a", 3)])
        self.assertEqual(degree(book), 1)
        rows, [(low, lap, high)] = chain(book, 1)
        self.assertEqual(len(lap), 12)
        self.assertTrue(chain_holds(book, (rows, [(low, lap, high)]), 1))


class Chain(Checks):
    def test_all_that_rows_do(self):
        for book, found in tries():
            due = degree_by_hand(book, found)
            reads = bool(set(book.live()) & set(book.starts))
            for rises in range(7):
                value = chain(book, rises)
                self.assertEqual(chain(rises=rises, book=book), value)
                if reads and (due is None or rises <= due):
                    self.assertIsInstance(value, tuple)
                    self.assertIsInstance(value[0], list)
                    self.assertIsInstance(value[1], list)
                    self.assertTrue(chain_holds(book, value, rises))
                    self.assertIs(is_chain(book, value), True)
                else:
                    self.assertIsNone(value)

    def test_stairs(self):
        for ends in range(7):
            for rises in range(7):
                value = chain(STAIRS.with_ends([ends]), rises)
                if rises > ends:
                    self.assertIsNone(value)
                else:
                    self.assertTrue(chain_holds(STAIRS.with_ends([ends]), value, rises))

    def test_no_rises(self):
        self.assertEqual(chain(SOME_BOOK, 0), (["a"], []))
        self.assertEqual(chain(ring("a", 7, [6]), 0), (["aaaaaa"], []))
        self.assertIsNone(chain(Book("ab", 7), 0))
        self.assertIsNone(chain(STAIRS.with_starts([]), 0))
        self.assertIsNone(chain(SOME_BOOK, 1))

    def test_a_doubling_has_all_chains(self):
        for book in [TWO, full_book("abcd", 7), full_book("ab", 7).with_starts([3]).with_ends([4]),
                     STAIRS + (6, "a", 0)]:
            for rises in range(7):
                self.assertTrue(chain_holds(book, chain(book, rises), rises))
                self.assertIs(is_chain(book, chain(book, rises)), True)

    def test_seven_rises(self):
        for rises in [7, 8, 10 ** 29]:
            self.check_raises(TooMany, {"what": "rises", "limit": 6}, chain, SOME_BOOK, rises)
            self.check_raises(TooMany, {"what": "rises", "limit": 6}, chain, rises=rises, book=TWO)
            self.check_raises(InvalidBook, {"value": None}, chain, None, rises)

    def test_wrong(self):
        self.check_parameters(chain, BOOK, ("rises", 0, NO_COUNTS, InvalidCount))
        self.assertTrue(chain_holds(RISE, chain(RISE, Number.ONE), 1))

    def test_lists_are_new(self):
        rows, rises = chain(STAIRS, 3)
        rows.clear()
        rises.append(None)
        self.assertTrue(chain_holds(STAIRS, chain(STAIRS, 3), 3))


class IsDoubling(Checks):
    GOOD = ("b", 1, "aa", "ab")
    BOOK = Book("ab", 4, [0], [3], [(0, "b", 1), (2, "b", 3)] + [(p, "a", q) for p in [1, 2] for q in [1, 2]])

    def test_good_ones(self):
        for value in [self.GOOD, ("b", 1, "aaa", "ab"), ("ba", 2, "aa", "b"), ("b" + "a" * 199, 2, "a" * 200, "b"),
                      ("baa", Number.TWO, "aa", "ab")]:
            self.assertIs(is_doubling(self.BOOK, value), True)
            self.assertIs(is_doubling(value=value, book=self.BOOK), True)

    def test_one_part_otherwise(self):
        for value in [("", 1, "aa", "ab"), ("b", 2, "aa", "b"), ("b", 1, "a", "ab"), ("b", 1, "", "ab"),
                      ("b", 1, "ab", "ab"), ("b", 1, "aa", "b"), ("b", 1, "aa", ""), ("b", 0, "aa", "ab"),
                      ("b", 3, "aa", ""), ("b", 4, "aa", "ab"), ("b", -1, "aa", "ab"), ("b", 1, "aab", "ab"),
                      ("", 0, "", "bab"), ("bab", 3, "", "")]:
            self.assertIs(is_doubling(self.BOOK, value), False)

    def test_other_kinds(self):
        for at in range(4):
            for value in (NO_INTEGERS if at == 1 else NO_STRINGS) + ["c", "A", "b ", "\ud800", 10 ** 29]:
                wrong = self.GOOD[:at] + (value,) + self.GOOD[at + 1:]
                self.assertIs(is_doubling(self.BOOK, wrong), False)
                self.assertIs(is_doubling(self.BOOK, list(wrong)), False)

    def test_any_value(self):
        for value in NO_LISTS + [(), [], self.GOOD[:3], self.GOOD + ("",), list(self.GOOD), (self.GOOD,), [self.GOOD],
                                 {0: "b", 1: 1}, "b1aaab", (None,) * 4, (0, 0, 0, 0), ("",) * 4, (Touchy(),) * 4,
                                 (Alike(),) * 4, ("b", "1", "aa", "ab"), (["b"], 1, "aa", "ab")]:
            self.assertIs(is_doubling(self.BOOK, value), False)
            self.assertIs(is_doubling(Book("a", 1), value), False)

    def test_against_runs(self):
        source = random.Random(8)
        good = 0
        for _ in range(60):
            book = random_book(source, "ab", 3)
            for state in range(3):
                rows = itertools.product(short_rows("ab", 1), short_rows("ab", 2), short_rows("ab", 1))
                for before, lap, behind in rows:
                    at_state = book.with_starts([state]).with_ends([state])
                    due = (state in book(before) and len(list(at_state.readings(lap))) > 1
                           and book.reads([state], behind))
                    self.assertIs(is_doubling(book, (before, state, lap, behind)), due)
                    good += due
        self.assertGreater(good, 20)

    def test_wrong_book(self):
        for value in NO_BOOKS:
            self.check_raises(InvalidBook, {"value": value}, is_doubling, value, self.GOOD)
            self.check_raises(InvalidBook, {"value": value}, is_chain, value, None)
            self.check_raises(InvalidBook, {"value": value}, is_chain, value=([""], []), book=value)


class IsChain(Checks):
    BOOK = STAIRS.with_ends([2])
    GOOD = (["", "", "a"], [(0, "a", 1), (1, "aa", 2)])

    def test_good_ones(self):
        for value in [self.GOOD, (tuple(self.GOOD[0]), tuple(self.GOOD[1])), (self.GOOD[0], tuple(self.GOOD[1])),
                      (["aa"], []), (("a" * 200,), ()), (["", "aa"], [(0, "a", 1)]), (["a", ""], [(1, "a", 2)]),
                      (["aa", "", "a"], [(0, "a", 1), (1, "a", Number.TWO)]), (["", "a"], [(0, "aa", 2)])]:
            self.assertIs(is_chain(self.BOOK, value), True)
            self.assertIs(is_chain(value=value, book=self.BOOK), True)
        self.assertEqual(self.GOOD, (["", "", "a"], [(0, "a", 1), (1, "aa", 2)]))

    def test_many_rises(self):
        rises = [(0, "aa", 1)] * 400
        self.assertIs(is_chain(TWO, ([""] + ["a"] * 399 + [""], rises)), True)
        self.assertIs(is_chain(TWO, ([""] + ["a"] * 398 + ["", ""], rises)), False)
        self.assertIs(is_chain(TWO, ([""] + ["a"] * 398 + [""], rises)), False)

    def test_one_part_otherwise(self):
        for value in [(["", ""], [(0, "a", 1), (1, "aa", 2)]), (["", "", "", "a"], [(0, "a", 1), (1, "aa", 2)]),
                      (["", "", "a"], [(0, "a", 0), (1, "aa", 2)]), (["", "", "a"], [(0, "", 1), (1, "aa", 2)]),
                      (["", "", "a"], [(1, "a", 0), (1, "aa", 2)]), (["", "", "a"], [(0, "a", 1), (2, "aa", 3)]),
                      (["", "", "a"], [(0, "a", 1), (0, "aa", 1)]), (["", "", "a"], [(1, "a", 2), (1, "aa", 2)]),
                      (["", "", "a"], [(0, "a", 1), (1, "aa", 7)]), (["", "", "a"], [(0, "a", 1), (-1, "aa", 2)]),
                      (["a"], []), ([""], []), ([], []), ([], [(0, "a", 1)]), (["", "a"], [(0, "a", 2)]),
                      (["", ""], [(0, "a", 1)]), (["", ""], [(0, "a", 2)]), (["", ""], [(1, "a", 2)]),
                      (["b"], []), (["", "a"], [(0, "b", 1)]), (["", "aa"], [(0, "a", 0)]),
                      (["", "aa"], [(0, "a", Number.ZERO)])]:
            self.assertIs(is_chain(self.BOOK, value), False, value)

    def test_each_way_of_a_rise(self):
        # By "a" each of two of the three ways is there.
        for lost in [(0, "a", 0), (0, "a", 1), (1, "a", 1)]:
            self.assertIs(is_chain(RISE, (["", ""], [(0, "a", 1)])), True)
            self.assertIs(is_chain(RISE - lost, (["", ""], [(0, "a", 1)])), False)
        two_ways = Book("ab", 3, [0], [2], [(0, "a", 0), (0, "a", 1), (1, "a", 2), (2, "a", 2)])
        self.assertIs(is_chain(two_ways, (["", ""], [(0, "aa", 2)])), True)
        self.assertIs(is_chain(two_ways, (["", ""], [(0, "a", 2)])), False)

    def test_other_kinds(self):
        rows, rises = self.GOOD
        for value in NO_LISTS + ["aa", {"": 1}, (), [], rises]:
            self.assertIs(is_chain(self.BOOK, (value, rises)), False)
        for value in NO_LISTS + ["aa", {"": 1}, (), [], rows]:
            self.assertIs(is_chain(self.BOOK, (rows, value)), False)
        for at in range(3):
            for value in NO_STRINGS + ["b", "A", " "]:
                self.assertIs(is_chain(self.BOOK, (rows[:at] + [value] + rows[at + 1:], rises)), False)
        for at in range(2):
            for value in NO_LISTS + [list(rises[at]), (), (0, "a"), (0, "a", 1, 2), ("a", 0, 1), rises, "0a1"]:
                self.assertIs(is_chain(self.BOOK, (rows, rises[:at] + [value] + rises[at + 1:])), False)
            for part in range(3):
                for value in (NO_STRINGS if part == 1 else NO_INTEGERS) + ["b", "A", -1, 7, 10 ** 29]:
                    wrong = rises[at][:part] + (value,) + rises[at][part + 1:]
                    self.assertIs(is_chain(self.BOOK, (rows, rises[:at] + [wrong] + rises[at + 1:])), False)

    def test_any_value(self):
        for value in NO_LISTS + [(), [], list(self.GOOD), self.GOOD + ([],), self.GOOD[:1], [["aa"], []], (self.GOOD,),
                                 (["aa"],), (["aa"], [], []), (None, None), ("aa", ""), (Touchy(), Touchy()),
                                 ([Touchy()], []), (["", ""], [Touchy()]), (["", ""], [(Own(), "a", Alike())]),
                                 ({"aa": 1}, {}), (["aa"], {}), (["aa"], ""), (["aa"], None)]:
            self.assertIs(is_chain(self.BOOK, value), False)
            self.assertIs(is_chain(Book("a", 1), value), False)


if __name__ == "__main__":
    unittest.main()
