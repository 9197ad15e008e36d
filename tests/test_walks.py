"""What comes and is held together; what rules lose; harmless widths."""

import itertools
import random
import unittest

from fewheld.books import Book
from fewheld.errors import InvalidBook, InvalidOrder, InvalidRule, OtherSize
from fewheld.readers import (ListRule, Plan, Reader, harmless_widths, lost_alone, lost_row, most_held, walk)
from tests.helpers import (NO_BOOKS, NO_ORDERS, NO_RULES, SOME_BOOK, Checks, begun_by_hand, comes_by_hand,
                           first_by_hand, found_by_hand, full_book, held_by_hand, random_book, random_plan,
                           random_rules, ring, sample_books, short_rows)

BOOK = ("book", SOME_BOOK, NO_BOOKS, InvalidBook)
RULE = ("rule", ListRule([1, 0], 1), NO_RULES, InvalidRule)
WIDE = Book("ab", 6, [0, 1], [5], [(0, "a", 2), (1, "a", 3), (1, "a", 4), (2, "a", 5), (2, "b", 5), (3, "a", 5),
                                   (4, "a", 5)])
ORDER = [0, 1, 3, 4, 2, 5]


def walk_by_hand(book, rules):
    """The tuples (first row, (set, held by each rule)) of all that comes and is held together."""
    known = {}

    def onward(place, letter):
        if (place, letter) not in known:
            held = [held_by_hand(book, rule, some, letter) for rule, some in zip(rules, place[1:])]
            known[(place, letter)] = (comes_by_hand(book, place[0], letter), *held)
        return known[(place, letter)]

    begin = (book.starts, *[begun_by_hand(book, rule) for rule in rules])
    return found_by_hand(book.letters, begin, onward)


def has_end(book, some):
    """Whether there is an end in the set."""
    return bool(set(some) & set(book.ends))


def loses(book, rule, row):
    """Whether the rule loses the row."""
    reader = Reader(book, rule)
    reader += row
    return row in book and not reader.at_end


def tries():
    """Books, each with some rules."""
    source = random.Random(53)
    for book in sample_books() + [random_book(source, "ab", 4) for _ in range(60)]:
        for rule in random_rules(source, book):
            yield book, rule


class Walk(Checks):
    def test_all_that_comes_and_is_held(self):
        for book, rule in tries():
            due = [(row, some, held) for row, (some, held) in walk_by_hand(book, [rule])]
            self.assertEqual(walk(book, rule), due)
            self.assertEqual(walk(rule=rule, book=book), due)
            self.assertEqual(most_held(book, rule), max(len(held) for _, _, held in due))
            self.assertEqual(most_held(rule=rule, book=book), most_held(book, rule))

    def test_readers_hold_so_much(self):
        for book, rule in list(tries())[::4]:
            found = walk(book, rule)
            firsts = {(some, held): row for row, some, held in found}
            for row in short_rows(book.letters, 3):
                reader = Reader(book, rule)
                reader += row
                first = firsts[(reader.whole, reader.held)]
                self.assertLessEqual((len(first), first), (len(row), row))

    def test_edges(self):
        self.assertEqual(walk(Book("a", 1), ListRule([0], 1)), [("", (), ())])
        self.assertEqual(walk(full_book("ab", 2), ListRule([1, 0], 0)), [("", (0, 1), ())])
        self.assertEqual(walk(full_book("ab", 2), ListRule([1, 0], 10 ** 25)), [("", (0, 1), (0, 1))])
        self.assertEqual(walk(full_book("ab", 2), Plan([1], {((1,), "b"): [0]})),
                         [("", (0, 1), (1,)), ("a", (0, 1), ()), ("b", (0, 1), (0,))])
        for width in range(9):
            self.assertEqual(most_held(full_book("abcd", 7), ListRule(list(range(7)), width)), min(width, 7))
        self.assertEqual(most_held(Book("ab", 7), ListRule(list(range(7)), 3)), 0)

    def test_the_list_is_new(self):
        walk(SOME_BOOK, ListRule([0, 1], 1)).clear()
        self.assertEqual(walk(SOME_BOOK, ListRule([0, 1], 1)), [("", (0,), (0,)), ("a", (1,), (1,)), ("b", (), ())])


class LostRow(Checks):
    def test_all_that_comes_and_is_held(self):
        lost = 0
        for book, rule in tries():
            due = first_by_hand(walk_by_hand(book, [rule]),
                                lambda some, held: has_end(book, some) and not has_end(book, held))
            self.assertEqual(lost_row(book, rule), due)
            self.assertEqual(lost_row(rule=rule, book=book), due)
            lost += due is not None
        self.assertGreater(lost, 50)

    def test_all_short_rows(self):
        for book, rule in list(tries())[::4]:
            found = lost_row(book, rule)
            for row in short_rows(book.letters, 4):
                if loses(book, rule, row):
                    self.assertIsNotNone(found)
                    self.assertLessEqual((len(found), found), (len(row), row))
            if found is not None:
                self.assertTrue(loses(book, rule, found))

    def test_edges(self):
        self.assertIsNone(lost_row(Book("ab", 7), ListRule(list(range(7)), 0)))
        self.assertIsNone(lost_row(full_book("ab", 3).with_ends([]), ListRule([0, 1, 2], 0)))
        self.assertEqual(lost_row(full_book("ab", 3), ListRule([0, 1, 2], 0)), "")
        self.assertIsNone(lost_row(full_book("ab", 3), ListRule([0, 1, 2], 1)))
        self.assertEqual(lost_row(SOME_BOOK, Plan([], {})), "a")
        self.assertEqual(lost_row(SOME_BOOK, Plan([0], {})), "a")
        self.assertIsNone(lost_row(SOME_BOOK, Plan([0], {((0,), "a"): [1]})))

    def test_a_long_row(self):
        # Both rings are in the starts; what is held first stays in the one with three states.
        rings = Book("a", 7, [0, 3], [1, 2, 6], [(0, "a", 1), (1, "a", 2), (2, "a", 0), (3, "a", 4), (4, "a", 5),
                                                 (5, "a", 6), (6, "a", 3)])
        self.assertEqual(lost_row(rings, ListRule([0, 1, 2, 3, 4, 5, 6], 1)), "aaa")
        self.assertEqual(lost_row(rings.with_ends([2, 6]), ListRule([0, 1, 2, 3, 4, 5, 6], 1)), "aaa")
        rings = rings.with_ends([0, 1, 6])
        self.assertEqual(lost_row(rings, ListRule([0, 1, 2, 3, 4, 5, 6], 1)), "a" * 11)
        self.assertIsNone(lost_row(rings, ListRule([0, 1, 2, 3, 4, 5, 6], 2)))


class HarmlessWidths(Checks):
    def test_all_widths(self):
        source = random.Random(61)
        for book in sample_books() + [random_book(source, "ab", 5) for _ in range(100)]:
            order = source.sample(range(book.size), book.size)
            due = [width for width in range(book.size + 1) if lost_row(book, ListRule(order, width)) is None]
            found = harmless_widths(book, order)
            self.assertEqual(found, due)
            self.assertEqual(harmless_widths(order=tuple(order), book=book), due)
            self.assertEqual(found[-1], book.size)

    def test_by_hand(self):
        source = random.Random(67)
        for _ in range(40):
            book = random_book(source, "ab", 4)
            for order in itertools.islice(itertools.permutations(range(4)), 0, None, 7):
                due = [width for width in range(5) if first_by_hand(
                    walk_by_hand(book, [ListRule(order, width)]),
                    lambda some, held: has_end(book, some) and not has_end(book, held)) is None]
                self.assertEqual(harmless_widths(book, order), due)

    def test_a_greater_width_that_is_not_harmless(self):
        self.assertEqual(harmless_widths(WIDE, ORDER), [1, 3, 4, 5, 6])
        self.assertEqual(harmless_widths(WIDE, [5, 2, 4, 3, 1, 0]), [2, 3, 4, 5, 6])

    def test_edges(self):
        self.assertEqual(harmless_widths(Book("a", 1), [0]), [0, 1])
        self.assertEqual(harmless_widths(Book("abcd", 7), [6, 5, 4, 3, 2, 1, 0]), [0, 1, 2, 3, 4, 5, 6, 7])
        self.assertEqual(harmless_widths(full_book("ab", 7), [6, 5, 4, 3, 2, 1, 0]), [1, 2, 3, 4, 5, 6, 7])
        self.assertEqual(harmless_widths(ring("a", 7, [0]).with_starts([0, 1, 2, 3, 4, 5, 6]), list(range(7))), [7])

    def test_the_order_is_kept_and_the_list_is_new(self):
        order = [1, 0]
        harmless_widths(SOME_BOOK, order).clear()
        self.assertEqual((order, harmless_widths(SOME_BOOK, order)), ([1, 0], [1, 2]))

    def test_wrong(self):
        self.check_parameters(harmless_widths, BOOK, ("order", (1, 0), NO_ORDERS, InvalidOrder))
        self.check_raises(InvalidOrder, {"value": [0, 1]}, harmless_widths, Book("ab", 3), [0, 1])
        self.check_raises(InvalidOrder, {"value": [0, 1]}, harmless_widths, Book("ab", 1), [0, 1])


class LostAlone(Checks):
    def test_all_that_comes_and_is_held(self):
        source = random.Random(71)
        alone = 0
        for book in sample_books() + [random_book(source, "ab", 4) for _ in range(60)]:
            rules = random_rules(source, book) + random_rules(source, book)
            for one, other in itertools.product(rules, repeat=2):
                due = first_by_hand(walk_by_hand(book, [one, other]), lambda some, mine, theirs:
                                    has_end(book, some) and not has_end(book, mine) and has_end(book, theirs))
                self.assertEqual(lost_alone(book, one, other), due)
                self.assertEqual(lost_alone(other=other, one=one, book=book), due)
                alone += due is not None
        self.assertGreater(alone, 100)

    def test_all_short_rows(self):
        source = random.Random(73)
        for _ in range(40):
            book = random_book(source, "ab", 4)
            one, other = random_rules(source, book)
            found = lost_alone(book, one, other)
            due = [row for row in short_rows("ab", 5) if loses(book, one, row) and not loses(book, other, row)]
            if due or found is not None and len(found) < 6:
                self.assertEqual(found, due[0])

    def test_more_held_loses_what_less_keeps(self):
        less, more = ListRule(ORDER, 1), ListRule(ORDER, 2)
        self.assertEqual(lost_alone(WIDE, more, less), "ab")
        self.assertIsNone(lost_alone(WIDE, less, more))
        self.assertIsNone(lost_alone(WIDE, more, more))
        self.assertEqual(lost_alone(WIDE, Plan([], {}), more), "aa")

    def test_edges(self):
        empty = ListRule(list(range(7)), 0)
        self.assertIsNone(lost_alone(Book("ab", 7), empty, ListRule(list(range(7)), 1)))
        self.assertEqual(lost_alone(full_book("ab", 7), empty, ListRule(list(range(7)), 1)), "")
        self.assertIsNone(lost_alone(full_book("ab", 7), ListRule(list(range(7)), 1), empty))

    def test_wrong(self):
        right = ListRule([0, 1], 1)
        self.check_parameters(lost_alone, BOOK, ("one", right, NO_RULES, InvalidRule),
                              ("other", Plan([], {}), NO_RULES, InvalidRule))


class OtherSizes(Checks):
    def test_the_first_list_rule(self):
        three, four, two = [ListRule(list(range(size)), 1) for size in [3, 4, 2]]
        plan = Plan([5], {})
        for call in [walk, lost_row, most_held]:
            self.check_parameters(call, BOOK, RULE)
            call(SOME_BOOK, plan)
            self.check_raises(OtherSize, {"one": 2, "other": 3}, call, SOME_BOOK, three)
            self.check_raises(OtherSize, {"one": 7, "other": 4}, call, rule=four, book=Book("a", 7))
        for one, other, due in [(three, four, 3), (four, three, 4), (three, two, 3), (two, three, 3), (plan, four, 4),
                                (four, plan, 4)]:
            self.check_raises(OtherSize, {"one": 2, "other": due}, lost_alone, SOME_BOOK, one, other)
            self.check_raises(OtherSize, {"one": 2, "other": due}, lost_alone, other=other, one=one, book=SOME_BOOK)
        self.check_raises(InvalidRule, {"value": None}, lost_alone, SOME_BOOK, three, None)
        self.check_raises(InvalidRule, {"value": None}, lost_alone, SOME_BOOK, None, three)


class Questions(Checks):
    def test_in_any_sequence(self):
        source = random.Random(83)
        books = [book for book in sample_books() if book.size == 5]
        rules = [ListRule([3, 1, 4, 0, 2], 2), random_plan(source, "ab", 5), ListRule([0, 1, 2, 3, 4], 1)]
        questions = [(call, book, rule) for call in [walk, lost_row, most_held] for book in books for rule in rules]
        told = [call(book, rule) for call, book, rule in questions]
        source.shuffle(order := list(range(len(questions))))
        for at in order:
            call, book, rule = questions[at]
            self.assertEqual(call(book, rule), told[at])


if __name__ == "__main__":
    unittest.main()
