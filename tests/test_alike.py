"""Sets that are alike or within one another, parting and missing rows, classes, covers, the least machine."""

import itertools
import random
import unittest

from fewheld.alike import (Likeness, are_alike, cover_width, covers, fewest, is_within, missing, parting, rooms)
from fewheld.books import Book
from fewheld.errors import InvalidBook, InvalidCount, InvalidSet
from tests.helpers import (NO_BOOKS, NO_COUNTS, NO_SETS, SOME_BOOK, Checks, Number, ending_by_hand, first_by_hand,
                           full_book, random_book, random_set, ring, sample_books, short_rows)
from tests.slow import marks_by_hand, sets_of

BOOK = ("book", SOME_BOOK, NO_BOOKS, InvalidBook)
SOME = ("some", [1, 0], NO_SETS, InvalidSet)
# States 0 to 2, and 3 to 6, stand in a ring each.
RINGS = Book("a", 7, [0, 3], [0, 3], [(0, "a", 1), (1, "a", 2), (2, "a", 0),
                                      (3, "a", 4), (4, "a", 5), (5, "a", 6), (6, "a", 3)])


def parting_by_hand(book, one, other):
    """The first row that just one of the sets reads."""
    return first_by_hand(ending_by_hand([book, book], [one, other]), lambda first, second: first != second)


def missing_by_hand(book, one, other):
    """The first row that the one set reads and the other one does not."""
    return first_by_hand(ending_by_hand([book, book], [one, other]), lambda first, second: first and not second)


def tries():
    """Books with two sets each."""
    source = random.Random(11)
    for book in sample_books():
        for _ in range(6):
            one = random_set(source, book.size)
            yield book, one, random_set(source, book.size)
            # Many sets are alike, or within one another, if one has the other.
            yield book, one, [state for state in one if source.random() < 0.7]


class Parting(Checks):
    def test_walks_of_pairs_of_sets(self):
        alike = 0
        for book, one, other in tries():
            due = parting_by_hand(book, one, other)
            self.assertEqual(parting(book, one, other), due)
            self.assertEqual(parting(other=tuple(other), one=tuple(one), book=book), due)
            self.assertEqual(parting(book, other, one), due)
            self.assertIs(are_alike(book, one, other), due is None)
            self.assertIs(are_alike(other=other, one=one, book=book), due is None)
            alike += due is None
        self.assertGreater(alike, 100)

    def test_all_short_rows(self):
        source = random.Random(2)
        for _ in range(60):
            book = random_book(source, "ab", 3)
            short = short_rows("ab", 5)
            for one, other in itertools.product(sets_of(book), repeat=2):
                apart = [row for row in short if book.reads(one, row) != book.reads(other, row)]
                found = parting(book, one, other)
                if apart:
                    self.assertEqual(found, apart[0])
                elif found is not None:
                    self.assertGreater(len(found), 5)
                    self.assertIsNot(book.reads(one, found), book.reads(other, found))

    def test_edges(self):
        for book in [Book("ab", 1), Book("abcd", 7), Book("ab", 2, [0], [], [(0, "a", 1), (1, "b", 0)])]:
            every = list(range(book.size))
            self.assertIsNone(parting(book, every, []))
            self.assertIs(are_alike(book, [], every), True)
        self.assertEqual(parting(Book("a", 1, [], [0]), [0], []), "")
        self.assertIsNone(parting(Book("a", 1, [], [0]), [], []))
        self.assertIsNone(parting(full_book("abcd", 7), [3], [6, 0]))
        self.assertEqual(parting(full_book("abcd", 7), [3], []), "")

    def test_the_first_one_in_order(self):
        # Of the rows "ba" and "ab" the latter is ahead, and "b" is ahead of both.
        book = Book("ab", 5, [], [4], [(0, "a", 2), (2, "b", 4), (0, "b", 3), (3, "a", 4)])
        self.assertEqual(parting(book, [0], [1]), "ab")
        self.assertEqual(parting(book + (1, "a", 2), [0], [1]), "ba")
        self.assertEqual(parting(book + (1, "b", 4), [0], [1]), "b")
        self.assertEqual(parting(book + (1, "a", 3), [0], [1]), "aa")

    def test_long_rows(self):
        self.assertEqual(parting(RINGS, [0], [3]), "aaa")
        book = RINGS.with_ends([1, 2, 4, 5, 6])
        self.assertEqual(parting(book, [0], [3]), "aaa")
        # All rows are read from 0, 1 and 2 together; from 1 or 4 those are not
        # whose number of letters is 2 more than one of 3, and 3 more than one of 4.
        self.assertEqual(parting(book, [1, 4], [0, 1, 2]), "a" * 11)


class Missing(Checks):
    def test_walks_of_pairs_of_sets(self):
        within = 0
        for book, one, other in tries():
            due = missing_by_hand(book, one, other)
            self.assertEqual(missing(book, one, other), due)
            self.assertEqual(missing(other=tuple(other), one=tuple(one), book=book), due)
            self.assertIs(is_within(book, one, other), due is None)
            self.assertIs(is_within(other=other, one=one, book=book), due is None)
            within += due is None
        self.assertGreater(within, 150)

    def test_within_exactly_if_the_other_is_alike_to_both_together(self):
        for book, one, other in tries():
            both = sorted(set(one) | set(other))
            self.assertIs(is_within(book, one, other), are_alike(book, other, both))
            self.assertIs(are_alike(book, one, other), is_within(book, one, other) and is_within(book, other, one))

    def test_edges(self):
        self.assertIsNone(missing(SOME_BOOK, [], []))
        self.assertIsNone(missing(SOME_BOOK, [], [0, 1]))
        self.assertEqual(missing(SOME_BOOK, [0, 1], []), "")
        self.assertEqual(missing(SOME_BOOK, [0, 1], [1]), "a")
        self.assertIsNone(missing(Book("abcd", 7), [0, 1, 2, 3, 4, 5, 6], []))

    def test_long_rows(self):
        # From 1 the rows of 2, 5, 8 .. letters are read; from 3 all but those of 0, 4, 8 ..
        book = RINGS.with_ends([0, 4, 5, 6])
        self.assertEqual(missing(book, [1], [3]), "a" * 8)
        self.assertEqual(missing(book, [0], [3]), "")
        self.assertEqual(missing(RINGS.with_ends([2, 3]), [0], [3]), "aa")


class Wrong(Checks):
    def test_two_sets(self):
        for call in [are_alike, is_within, parting, missing]:
            self.check_parameters(call, BOOK, ("one", [0], NO_SETS, InvalidSet), ("other", (), NO_SETS, InvalidSet))

    def test_one_set(self):
        for call in [covers, fewest]:
            self.check_parameters(call, BOOK, SOME)

    def test_a_book(self):
        for call in [Likeness, cover_width, rooms]:
            self.check_parameters(call, BOOK)

    def test_states_of_another_book(self):
        self.check_raises(InvalidSet, {"value": [6]}, covers, Book("a", 6), [6])
        self.assertEqual(covers(Book("a", 7), [6]), [()])
        self.check_raises(InvalidSet, {"value": (7,)}, fewest, Book("a", 7), (7,))


class Classes(Checks):
    def test_classes_of_alike_sets(self):
        for book in sample_books():
            marks = marks_by_hand(book)
            likeness = Likeness(book)
            firsts = {}
            for states in sets_of(book):
                firsts.setdefault(marks[states], []).append(states)
            due = list(firsts.values())
            self.assertEqual(len(likeness), len(due))
            self.assertEqual([likeness(number) for number in range(len(due))], due)
            for number, alike in enumerate(due):
                for states in alike:
                    self.assertEqual(likeness[states], number)
                    self.assertEqual(likeness[list(reversed(states))], number)

    def test_alike_exactly_if_in_one_class(self):
        for book, one, other in tries():
            likeness = Likeness(book)
            self.assertIs(likeness[one] == likeness[other], are_alike(book, one, other))

    def test_edges(self):
        for book in [Book("a", 1), Book("abcd", 7), full_book("a", 2).with_ends([])]:
            likeness = Likeness(book)
            self.assertEqual(len(likeness), 1)
            self.assertEqual(likeness(0), sets_of(book))
            self.assertEqual(likeness[list(range(book.size))], 0)
        all_unlike = ring("ab", 7, [0])
        likeness = Likeness(all_unlike)
        self.assertEqual(len(likeness), 128)
        self.assertEqual([likeness(number) for number in range(128)], [[states] for states in sets_of(all_unlike)])
        full = Likeness(full_book("abcd", 7))
        self.assertEqual((len(full), full(0), len(full(1)), full[[6]]), (2, [()], 127, 1))

    def test_indexes(self):
        likeness = Likeness(SOME_BOOK)
        self.assertEqual([likeness[()], likeness[0,], likeness[1, 0], likeness[[]], likeness[Number.ONE,]],
                         [0, 1, 3, 0, 2])
        for value in NO_SETS + [slice(None), slice(0, 1)]:
            self.check_raises(InvalidSet, {"value": value}, lambda: likeness[value])

    def test_numbers(self):
        likeness = Likeness(SOME_BOOK)
        self.assertEqual(len(likeness), 4)
        self.assertEqual(likeness(number=3), [(0, 1)])
        self.assertEqual(likeness(Number.TWO), [(1,)])
        for value in NO_COUNTS + [4, 5, 128, 10 ** 29]:
            self.check_raises(InvalidCount, {"value": value}, likeness, value)
            self.check_raises(InvalidCount, {"value": value}, likeness, number=value)

    def test_lists_are_new(self):
        likeness = Likeness(Book("a", 2))
        likeness(0).append("more")
        self.assertEqual(likeness(0), [(), (0,), (1,), (0, 1)])
        self.assertIsNot(likeness(0), likeness(0))

    def test_book_and_equality(self):
        likeness = Likeness(SOME_BOOK)
        self.assertIs(likeness.book, SOME_BOOK)
        self.assertEqual(likeness, Likeness(Book("ab", 2, [0], [1], [(0, "a", 1)])))
        self.assertFalse(likeness != Likeness(SOME_BOOK))
        # These have the same classes.
        self.assertNotEqual(likeness, Likeness(SOME_BOOK.with_starts([])))
        for value in NO_BOOKS + [SOME_BOOK]:
            self.assertIs(likeness == value, False)
            self.assertIs(likeness != value, True)
        with self.assertRaises(AttributeError):
            likeness.book = SOME_BOOK

    def test_it_is_not_iterated_over(self):
        for deed in [iter, list, sorted, lambda likeness: 0 in likeness, lambda likeness: [*likeness]]:
            with self.assertRaises(TypeError):
                deed(Likeness(SOME_BOOK))

    def test_it_does_not_change(self):
        first, second = Likeness(RINGS), Likeness(ring("a", 7, [0, 1]))
        told = [(first[states], second[states]) for states in sets_of(RINGS)]
        self.assertEqual([(first[states], second[states]) for states in reversed(sets_of(RINGS))], told[::-1])


class Covers(Checks):
    def test_bare_covers(self):
        for book in sample_books():
            marks = marks_by_hand(book)
            for some in sets_of(book)[::3]:
                parts = [part for part in sets_of(book) if set(part) <= set(some) and marks[part] == marks[some]]
                due = [part for part in parts if not any(set(less) < set(part) for less in parts)]
                self.assertEqual(covers(book, list(reversed(some))), due)
                self.assertEqual(covers(some=some, book=book), due)
                self.assertEqual(fewest(book, some), min(len(part) for part in parts))
                self.assertEqual(fewest(some=some, book=book), len(due[0]))

    def test_edges(self):
        for book in [Book("a", 1), Book("abcd", 7), SOME_BOOK.with_ends([])]:
            self.assertEqual([covers(book, []), fewest(book, [])], [[()], 0])
            self.assertEqual([covers(book, [0]), fewest(book, [0])], [[()], 0])
        self.assertEqual(covers(full_book("abcd", 7), [5, 3, 6]), [(3,), (5,), (6,)])
        self.assertEqual(covers(ring("ab", 7, [0]), [5, 3, 6]), [(3, 5, 6)])
        self.assertEqual(fewest(ring("ab", 7, [0]), [0, 1, 2, 3, 4, 5, 6]), 7)

    def test_lists_are_new_and_what_is_passed_is_kept(self):
        some = [1, 0]
        found = covers(SOME_BOOK, some)
        self.assertEqual((found, some), ([(0, 1)], [1, 0]))
        found.append(())
        self.assertEqual(covers(SOME_BOOK, some), [(0, 1)])

    def test_no_state_can_be_left_out_one_by_one(self):
        # 0 reads "", "a"; 1 reads "", "b"; 2 reads "a", "b": each two are a cover.
        book = Book("ab", 4, [0, 1, 2], [0, 1, 3], [(0, "a", 3), (1, "b", 3), (2, "a", 3), (2, "b", 3)])
        self.assertEqual(covers(book, [0, 1, 2]), [(0, 1), (0, 2), (1, 2)])
        self.assertEqual(cover_width(book), (2, ""))


class CoverWidth(Checks):
    def test_all_sets_that_come(self):
        for book in sample_books():
            marks = marks_by_hand(book)
            wanted = [(row, min(len(part) for part in sets_of(book)
                                if set(part) <= set(some) and marks[part] == marks[some]))
                      for row, some in book.coming()]
            width = max(number for _, number in wanted)
            self.assertEqual(cover_width(book), (width, [row for row, number in wanted if number == width][0]))
            self.assertEqual(cover_width(book=book), cover_width(book))

    def test_width_0_exactly_if_no_row_is_read(self):
        for book in sample_books():
            reads = bool(set(book.live()) & set(book.starts))
            self.assertIs(cover_width(book)[0] == 0, not reads)
        self.assertEqual(cover_width(Book("abcd", 7)), (0, ""))
        self.assertEqual(cover_width(full_book("ab", 3).with_starts([])), (0, ""))

    def test_first_row(self):
        # Behind "bb" all states of a ring come at once, and each row tells one of them.
        fan = Book("ab", 7, [0], [2], [(0, "a", 0), (0, "b", 1)] + [(1, "b", p) for p in range(2, 7)]
                   + [(p, "a", p + 1) for p in range(2, 6)] + [(6, "a", 2)])
        self.assertEqual(cover_width(fan), (5, "bb"))
        wide = ring("ab", 7, [0]).with_starts([0, 1, 2, 3, 4, 5, 6])
        self.assertEqual(cover_width(wide), (7, ""))
        late = Book("ab", 7, [0], [6], [(0, "b", 1), (0, "b", 2), (1, "b", 3), (1, "b", 4), (2, "b", 5), (3, "a", 6),
                                        (4, "b", 6), (5, "a", 4)])
        self.assertEqual(cover_width(late), (3, "bb"))


class Rooms(Checks):
    def test_rooms_of_classes(self):
        for book in sample_books():
            marks = marks_by_hand(book)
            firsts = {}
            for _, states in book.coming():
                firsts.setdefault(marks[states], states)
            numbers = {mark: number for number, mark in enumerate(firsts)}
            due = [(bool(set(states) & set(book.ends)), tuple(numbers[marks[book.comes(states, a)]]
                                                             for a in book.letters))
                   for states in firsts.values()]
            found = rooms(book)
            self.assertEqual(found, due)
            self.assertEqual(rooms(book=book), due)
            for ending, doors in found:
                self.assertIsInstance(ending, bool)
                self.assertIsInstance(doors, tuple)

    def test_the_machine_reads_the_same_rows(self):
        many = 0
        for book in sample_books():
            found = rooms(book)
            if len(found) <= 7:
                machine = Book.of_rooms(book.letters, found)
                many += 1
                for row in short_rows(book.letters, 4):
                    self.assertIs(row in machine, row in book)
                self.assertEqual(rooms(machine), found)
        self.assertGreater(many, 30)

    def test_edges(self):
        self.assertEqual(rooms(Book("a", 1)), [(False, (0,))])
        self.assertEqual(rooms(Book("abcd", 7)), [(False, (0, 0, 0, 0))])
        self.assertEqual(rooms(full_book("abcd", 7)), [(True, (0, 0, 0, 0))])
        self.assertEqual(rooms(Book("ab", 1, [0], [0], [(0, "b", 0)])), [(True, (1, 0)), (False, (1, 1))])
        self.assertEqual(rooms(ring("a", 7, [3])), [(at == 3, ((at + 1) % 7,)) for at in range(7)])

    def test_more_rooms_than_states(self):
        # Which of the last seven letters were "b" is to be kept in mind.
        book = Book("ab", 7, [0], [6], [(0, "a", 0), (0, "b", 0)] + [(0, "b", 1)]
                    + [(p, a, p + 1) for p in range(1, 6) for a in "ab"])
        found = rooms(book)
        self.assertEqual(len(found), 64)
        self.assertEqual(found[0], (False, (0, 1)))

    def test_the_list_is_new(self):
        rooms(SOME_BOOK).clear()
        self.assertEqual(rooms(SOME_BOOK), [(False, (1, 2)), (True, (2, 2)), (False, (2, 2))])


if __name__ == "__main__":
    unittest.main()
