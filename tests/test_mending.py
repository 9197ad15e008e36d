"""What fits, opened books, mends, plain parts, orders for one, right orders."""

import itertools
import random
import unittest

from fewheld.alike import are_alike, books_alike, cover_width
from fewheld.books import Book
from fewheld.errors import InvalidBook, InvalidCount, InvalidThings, TooMany
from fewheld.families import held_width, is_enough, plan_for
from fewheld.mending import (first_order, fitting, is_plain, mend, opened, order_for_one, plain_part, put_in,
                             right_orders)
from fewheld.readers import ListRule, lost_row
from tests.helpers import (NO_BOOKS, NO_COUNTS, NO_LISTS, NO_STATES, NO_STEPS, SOME_BOOK, Checks, Number, all_of,
                           first_of, full_book, random_book, ring, sample_books, short_rows)
from tests.slow import (FIVE, HARD, NONE, THIRD, TORN, WIDE, chain_book, come_by_hand, is_enough_by_hand, is_within_by_hand,
                        lively_books, marks_of, plan_by_hand, struck_by_hand, tried_books)

HUGE = 10 ** 25
BOOK = ("book", SOME_BOOK, NO_BOOKS, InvalidBook)
K = ("k", 1, NO_COUNTS, InvalidCount)
WIDTH = ("width", 1, NO_COUNTS, InvalidCount)
# FIVE with the one step that lets a single held state be enough.
MENDED = FIVE + (1, "b", 4)
# Neither states nor steps of a book of two states over "ab".
NO_THINGS = NO_STATES + [value for value in NO_STEPS if value.__class__ is not int]


def small_books():
    """Books for which all that can be put in can be tried."""
    return [book for book in tried_books() if book.size < 5 and len(book.letters) < 4]


def fitting_by_hand(book):
    """All that fits and is not there, found by trying all states and steps."""
    states = [q for q in range(book.size) if q not in book.starts and is_within_by_hand(book, [q], book.starts)]
    steps = [(p, a, q) for p, a, q in itertools.product(range(book.size), book.letters, range(book.size))
             if (p, a, q) not in book.steps() and is_within_by_hand(book, [q], come_by_hand(book, (p,), a))]
    return states + steps


def with_by_hand(book, things):
    """The book with these things put in."""
    states = [thing for thing in things if isinstance(thing, int)]
    steps = [thing for thing in things if isinstance(thing, tuple)]
    return Book(book.letters, book.size, sorted({*book.starts, *states}), book.ends, sorted({*book.steps(), *steps}))


def mend_by_hand(book, k):
    """The mend, with each book that is tried told anew."""
    left = fitting_by_hand(book)
    if not is_enough_by_hand(with_by_hand(book, left), k):
        return None
    for thing in fitting_by_hand(book):
        rest = [other for other in left if other != thing]
        if is_enough_by_hand(with_by_hand(book, rest), k):
            left = rest
    return left


def order_by_hand(book):
    """The order for one, of the good states that are told by what is left of the sets of one state."""
    good = [states[0] for states in struck_by_hand(book, 1)[0] if states]
    order = []
    while len(order) < len(good):
        rest = [p for p in good if p not in order]
        order.append(next(p for p in rest if not any(
            is_within_by_hand(book, [p], [q]) and not is_within_by_hand(book, [q], [p]) for q in rest)))
    return tuple(order + [p for p in range(book.size) if p not in good])


def books_for_one():
    """Books for which one held state is enough."""
    source = random.Random(33)
    drawn = [random_book(source, source.choice(["a", "ab", "abc"]), source.randint(1, 5)) for _ in range(80)]
    return [book for book in tried_books() + drawn + [opened(book) for book in drawn] if held_width(book) <= 1]


class Fitting(Checks):
    def test_all_states_and_steps_tried(self):
        for book in tried_books():
            self.assertEqual(fitting(book), fitting_by_hand(book))

    def test_each_alone_changes_what_no_state_reads(self):
        for book in small_books():
            rows = short_rows(book.letters, 4)
            for thing in fitting(book):
                mended = with_by_hand(book, [thing])
                for state in range(book.size):
                    self.assertEqual([mended.reads([state], row) for row in rows],
                                     [book.reads([state], row) for row in rows])
                self.assertTrue(books_alike(book, mended))

    def test_what_does_not_fit_changes_what_is_read(self):
        for book in small_books():
            fits = fitting(book)
            for step in itertools.product(range(book.size), book.letters, range(book.size)):
                if step not in fits and step not in book.steps():
                    # The step alone lets its state read what the state did not read.
                    state, letter, behind = step
                    whole = tuple(sorted({*come_by_hand(book, (state,), letter), behind}))
                    marks = marks_of(book)
                    self.assertNotEqual(marks[whole], marks[come_by_hand(book, (state,), letter)])

    def test_edges(self):
        # States that are not live fit everywhere.
        self.assertEqual(fitting(Book("a", 1)), [0, (0, "a", 0)])
        self.assertEqual(fitting(Book("ab", 2, [1], [], [(0, "b", 0)])),
                         [0, (0, "a", 0), (0, "a", 1), (0, "b", 1), (1, "a", 0), (1, "a", 1), (1, "b", 0),
                          (1, "b", 1)])
        self.assertEqual(len(fitting(Book("abcd", 7))), 7 + 7 * 4 * 7)
        self.assertEqual(fitting(full_book("abcd", 7)), [])
        self.assertEqual(fitting(ring("ab", 7, [0])), [])
        self.assertEqual(fitting(Book("a", 2, [0], [0, 1])), [1])
        self.assertEqual(fitting(Book("a", 2, [], [0, 1])), [])
        self.assertEqual(fitting(Book("a", 3, [0], [1], [(0, "a", 1)])), [2, (0, "a", 2), (1, "a", 2), (2, "a", 2)])
        self.assertEqual(fitting(FIVE), [(0, "a", 4), (0, "b", 2), (0, "b", 3), (1, "a", 2), (1, "a", 3),
                                         (1, "b", 4)])
        found = fitting(FIVE)
        found.clear()
        self.assertEqual(len(fitting(FIVE)), 6)


class Opened(Checks):
    def test_all_that_fits_is_put_in(self):
        for book in tried_books():
            found = opened(book)
            self.assertEqual(found, with_by_hand(book, fitting_by_hand(book)))
            self.assertEqual(found.ends, book.ends)

    def test_each_state_reads_what_it_read(self):
        for book in tried_books():
            marks = marks_of(book)
            opened_marks = marks_of(opened(book))
            for one, other in itertools.combinations(marks, 2):
                if len(one) == len(other) == 1:
                    self.assertIs(marks[one] == marks[other], opened_marks[one] == opened_marks[other])
            together = book.with_starts([]) | opened(book).with_starts([]) if book.size < 4 else None
            if together:
                for state in range(book.size):
                    self.assertTrue(are_alike(together, [state], [state + book.size]))
            self.assertTrue(books_alike(book, opened(book)))

    def test_nothing_is_left_that_fits(self):
        for book in tried_books():
            self.assertEqual(fitting(opened(book)), [])
            self.assertEqual(opened(opened(book)), opened(book))

    def test_edges(self):
        self.assertEqual(opened(Book("a", 1)), Book("a", 1, [0], [], [(0, "a", 0)]))
        self.assertEqual(opened(full_book("ab", 3)), full_book("ab", 3))
        self.assertEqual(opened(Book("ab", 7)), full_book("ab", 7).with_ends([]))


class PutIn(Checks):
    def test_things_that_are_told(self):
        source = random.Random(12)
        for book in tried_books():
            every = list(range(book.size)) + list(itertools.product(range(book.size), book.letters, range(book.size)))
            things = source.sample(every, source.randint(0, min(len(every), 9)))
            self.assertEqual(put_in(book, things), with_by_hand(book, things))
            self.assertEqual(put_in(book, tuple(things + things[::-1])), with_by_hand(book, things))

    def test_edges(self):
        self.assertEqual(put_in(SOME_BOOK, []), SOME_BOOK)
        self.assertEqual(put_in(SOME_BOOK, ()), SOME_BOOK)
        # What is there already, or stands there twice, is let.
        self.assertEqual(put_in(SOME_BOOK, [0, (0, "a", 1), 0]), SOME_BOOK)
        self.assertEqual(put_in(SOME_BOOK, [(1, "b", 0), 1, (1, "b", 0), 1]),
                         Book("ab", 2, [0, 1], [1], [(0, "a", 1), (1, "b", 0)]))
        self.assertEqual(put_in(things=[Number.ONE], book=SOME_BOOK), SOME_BOOK.with_starts([0, 1]))
        # What does not fit may be put in as well.
        self.assertFalse(books_alike(put_in(SOME_BOOK, [1]), SOME_BOOK))
        self.assertEqual(put_in(Book("abcd", 7), fitting(Book("abcd", 7))), full_book("abcd", 7).with_ends([]))

    def test_what_is_passed_is_kept(self):
        things = [(1, "b", 0), 1]
        found = put_in(SOME_BOOK, things)
        self.assertEqual(things, [(1, "b", 0), 1])
        things.clear()
        self.assertEqual(found.starts, (0, 1))
        self.assertEqual(SOME_BOOK.starts, (0,))

    def test_wrong_things(self):
        for value in NO_LISTS:
            self.check_raises(InvalidThings, {"position": None}, put_in, SOME_BOOK, value)
            self.check_raises(InvalidThings, {"position": None}, put_in, things=value, book=SOME_BOOK)
        for value in NO_THINGS:
            self.check_raises(InvalidThings, {"position": 0}, put_in, SOME_BOOK, [value])
            self.check_raises(InvalidThings, {"position": 2}, put_in, SOME_BOOK, (1, (0, "b", 1), value, None))
        self.check_raises(InvalidThings, {"position": 1}, put_in, SOME_BOOK, [0, 2, -1])
        self.check_raises(InvalidThings, {"position": 3}, put_in, SOME_BOOK, [0, 0, (0, "a", 1), [0, "a", 1]])
        for value in NO_BOOKS:
            self.check_raises(InvalidBook, {"value": value}, put_in, value, "nothing")


class Mend(Checks):
    def test_taken_out_one_by_one(self):
        found = set()
        for book in small_books() + TORN + [FIVE, WIDE, NONE]:
            for k in range(min(book.size, 3) + 1):
                due = mend_by_hand(book, k)
                self.assertEqual(mend(book, k), due)
                found.add(None if due is None else len(due))
        self.assertLessEqual({None, 0, 1, 2, 3, 4, 5}, found)

    def test_what_is_left_is_enough_and_none_of_it_can_be_left_out_alone(self):
        tried = 0
        for book in tried_books() + TORN:
            for k in range(book.size + 1):
                left = mend(book, k)
                self.assertIs(left is None, not is_enough(opened(book), k))
                if left is not None:
                    self.assertTrue(is_enough(put_in(book, left), k))
                    self.assertTrue(set(left) <= set(fitting(book)))
                    for thing in left:
                        rest = [other for other in left if other != thing]
                        self.assertFalse(is_enough(put_in(book, rest), k))
                        tried += 1
        self.assertGreater(tried, 30)

    def test_all_parts_of_small_mends(self):
        for book in lively_books() + TORN:
            for k in [1, 2]:
                left = mend(book, k)
                if left:
                    enough = [part for many in range(len(left) + 1) for part in itertools.combinations(left, many)
                              if is_enough_by_hand(with_by_hand(book, part), k)]
                    self.assertIn(tuple(left), enough)
                    self.assertFalse([part for part in enough if len(part) == len(left) - 1])

    def test_states_stand_ahead_of_steps(self):
        for book in tried_books() + TORN:
            for k in range(book.size + 1):
                left = mend(book, k)
                if left is not None:
                    self.assertEqual(left, [thing for thing in fitting(book) if thing in left])

    def test_edges(self):
        self.assertEqual(mend(FIVE, 1), [(1, "b", 4)])
        self.assertEqual(mend(FIVE, 2), [])
        self.assertIsNone(mend(FIVE, 0))
        self.assertEqual(mend(k=HUGE, book=FIVE), [])
        self.assertEqual(mend(Book("abcd", 7), 0), [])
        self.assertEqual(mend(ring("ab", 7, [0]).with_starts([0, 1]), 2), [])
        self.assertIsNone(mend(ring("ab", 7, [0]).with_starts([0, 1]), 1))
        # A state that is to be made a start.
        book = Book("a", 3, [0, 1], [0, 1, 2], [(0, "a", 2), (1, "a", 0), (2, "a", 1)])
        self.assertEqual(mend(book, 1), [])
        starts = Book("ab", 4, [0, 1], [0, 1, 2, 3], [(1, "a", 3), (0, "b", 3), (2, "a", 3), (2, "b", 3)])
        self.assertEqual((held_width(starts), mend(starts, 1)), (2, [2]))
        found = mend(FIVE, 1)
        found.clear()
        self.assertEqual(mend(FIVE, 1), [(1, "b", 4)])


class PlainParts(Checks):
    def test_what_the_plan_goes_through(self):
        for book in books_for_one():
            begin, table = plan_by_hand(book, 1)
            steps = sorted({(states[0], a, held[0]) for (states, a), held in table.items() if states and held})
            self.assertEqual(plain_part(book), Book(book.letters, book.size, begin, book.ends, steps))

    def test_it_reads_the_same_rows_one_state_at_a_time(self):
        for book in books_for_one():
            part = plain_part(book)
            self.assertTrue(books_alike(part, book))
            self.assertTrue(is_plain(part))
            self.assertTrue(all(len(states) <= 1 for _, states in part.coming()))
            self.assertLessEqual(set(part.steps()), set(book.steps()))
            self.assertLessEqual(set(part.starts), set(book.starts))
            self.assertEqual((part.letters, part.size, part.ends), (book.letters, book.size, book.ends))

    def test_none_exactly_if_one_is_not_enough(self):
        kinds = {True: 0, False: 0}
        for book in tried_books():
            is_there = is_enough_by_hand(book, 1)
            self.assertIs(plain_part(book) is not None, is_there)
            kinds[is_there] += 1
        self.assertGreater(min(kinds.values()), 5)

    def test_edges(self):
        for book in [Book("a", 1), Book("abcd", 7), full_book("ab", 3).with_ends([]), full_book("ab", 3).with_starts([]),
                     Book("ab", 3, [0], [2], [(0, "a", 1), (2, "a", 2)])]:
            self.assertEqual(plain_part(book), Book(book.letters, book.size, [], book.ends))
        self.assertEqual(plain_part(full_book("ab", 7)),
                         Book("ab", 7, [0], list(range(7)), [(0, "a", 0), (0, "b", 0)]))
        self.assertEqual(plain_part(MENDED),
                         Book("ab", 6, [1], [5], [(1, "a", 4), (1, "b", 4), (4, "a", 5), (4, "b", 5)]))
        self.assertEqual(plain_part(SOME_BOOK), SOME_BOOK)
        self.assertIsNone(plain_part(FIVE))
        self.assertEqual(plain_part(chain_book(4).with_ends([1, 2, 3])).starts, (0,))

    def test_plain(self):
        found = set()
        for book in tried_books() + sample_books(60):
            due = all(len(states) < 2 for _, states in book.coming())
            self.assertIs(is_plain(book), due)
            found.add(due)
        self.assertEqual(found, {True, False})

    def test_plain_edges(self):
        self.assertIs(is_plain(Book("a", 1)), True)
        self.assertIs(is_plain(Book("a", 2, [0, 1])), False)
        self.assertIs(is_plain(Book("a", 2, [0], [], [(0, "a", 0), (0, "a", 1)])), False)
        # No start comes to the state from which two steps lead.
        self.assertIs(is_plain(Book("a", 2, [0], [0], [(1, "a", 0), (1, "a", 1)])), True)
        self.assertIs(is_plain(ring("abcd", 7, [])), True)


class OrdersForOne(Checks):
    def test_good_states_that_read_most_stand_first(self):
        for book in books_for_one():
            self.assertEqual(order_for_one(book), order_by_hand(book))

    def test_the_list_rule_loses_no_row(self):
        for book in books_for_one():
            order = order_for_one(book)
            self.assertIs(order.__class__, tuple)
            self.assertEqual(sorted(order), list(range(book.size)))
            self.assertIsNone(lost_row(book, ListRule(order, 1)))

    def test_none_exactly_if_one_is_not_enough(self):
        for book in tried_books():
            self.assertIs(order_for_one(book) is not None, is_enough_by_hand(book, 1))

    def test_edges(self):
        self.assertEqual(order_for_one(Book("a", 1)), (0,))
        self.assertEqual(order_for_one(Book("abcd", 7)), (0, 1, 2, 3, 4, 5, 6))
        self.assertEqual(order_for_one(full_book("abcd", 7)), (0, 1, 2, 3, 4, 5, 6))
        self.assertEqual(order_for_one(MENDED), (1, 4, 2, 3, 5, 0))
        self.assertIsNone(order_for_one(FIVE))
        # States that read no row are good, but all that read more stand ahead of them.
        self.assertEqual(order_for_one(Book("a", 3, [2], [2])), (2, 0, 1))
        self.assertEqual(order_for_one(Book("a", 3, [2], [1, 2], [(2, "a", 2)])), (2, 1, 0))
        # A state that is not good stands behind those that read no row.
        book = Book("ab", 5, [4], [1, 2, 4], [(0, "a", 1), (0, "a", 2), (1, "a", 1), (2, "b", 2)])
        self.assertEqual(order_for_one(book), (1, 2, 4, 3, 0))


class RightOrders(Checks):
    def test_all_orders_tried(self):
        source = random.Random(44)
        many = set()
        for book in [book for book in tried_books() if book.size < 5] + [random_book(source, "ab", 5)]:
            for width in [0, 1, 2, 3, HUGE]:
                due = [order for order in itertools.permutations(range(book.size))
                       if lost_row(book, ListRule(order, width)) is None]
                self.assertEqual(list(right_orders(book, width)), due)
                self.assertEqual(first_order(book, width), due[0] if due else None)
                many.add(len(due))
        self.assertGreater(len(many), 8)

    def test_six_states(self):
        for book in [NONE, FIVE, WIDE]:
            for width in [1, 2, 6]:
                due = [order for order in itertools.permutations(range(6))
                       if lost_row(book, ListRule(order, width)) is None]
                self.assertEqual(list(right_orders(book, width)), due)
                self.assertEqual(first_order(book, width), due[0] if due else None)

    def test_edges(self):
        self.assertEqual(list(right_orders(Book("a", 1), 0)), [(0,)])
        self.assertEqual(list(right_orders(Book("a", 1, [0], [0]), 0)), [])
        self.assertEqual(list(right_orders(width=1, book=SOME_BOOK)), [(0, 1), (1, 0)])
        self.assertEqual(len(list(right_orders(Book("abcd", 6), 0))), 720)
        self.assertIsNone(first_order(NONE, 2))
        self.assertIsNone(first_order(Book("a", 1, [0], [0]), width=0))
        self.assertEqual(first_order(Book("a", 6), 0), (0, 1, 2, 3, 4, 5))
        self.assertEqual(first_order(full_book("abcd", 6), 1), (0, 1, 2, 3, 4, 5))
        self.assertEqual(first_order(THIRD, HUGE), (0, 1, 2, 3))
        self.assertEqual(next(right_orders(FIVE, 6)), (0, 1, 2, 3, 4, 5))

    def test_seven_states(self):
        told = {"what": "states", "limit": 6}
        for book in [Book("a", 7), full_book("abcd", 7)]:
            for width in [0, 1, 7, HUGE]:
                self.check_raises(TooMany, told, first_of(right_orders), book, width)
                self.check_raises(TooMany, told, first_order, book, width)
            self.check_raises(InvalidCount, {"value": -1}, first_of(right_orders), book, -1)
            self.check_raises(InvalidCount, {"value": True}, first_order, book, True)


class Wrong(Checks):
    def test_parameters(self):
        for call in [fitting, opened, plain_part, is_plain, order_for_one]:
            self.check_parameters(call, BOOK)
        self.check_parameters(mend, BOOK, K)
        for call in [all_of(right_orders), first_of(right_orders), first_order]:
            self.check_parameters(call, BOOK, WIDTH)

    def test_in_any_sequence(self):
        books = HARD + [FIVE, MENDED, NONE]
        calls = [fitting, opened, plain_part, order_for_one, lambda book: mend(book, 1), is_plain,
                 lambda book: first_order(book, 1), lambda book: list(right_orders(book, 1)), held_width, cover_width,
                 lambda book: plan_for(book, 7), lambda book: put_in(book, [0, (0, book.letters[0], 0)]), repr]
        asked = list(itertools.product(range(len(calls)), range(len(books))))
        first = {(call, at): calls[call](books[at]) for call, at in asked}
        random.Random(8).shuffle(asked)
        for call, at in asked:
            self.assertEqual(calls[call](books[at]), first[(call, at)])


if __name__ == "__main__":
    unittest.main()
