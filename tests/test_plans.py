"""The plan of the budget, ranks, struck sets, and in how many letters a budget is exhausted."""

import random
import unittest

from fewheld.books import Book
from fewheld.errors import NotEnough
from fewheld.families import exhausted_in, family, held_width, is_enough, least_budget, plan_for, struck
from fewheld.readers import Plan, Reader, lost_row, most_held, walk
from tests.helpers import Checks, full_book, held_by_hand, ring
from tests.slow import (FIVE, HARD, NONE, alike_parts, letters_alike, lively_books, marks_of, plan_by_hand, price_of,
                        random_prices, sets_of, struck_by_hand, tried_books)

HUGE = 10 ** 25


def enough_cases():
    """Books with a budget that is enough, and prices."""
    source = random.Random(19)
    for book in tried_books():
        for prices in [None, random_prices(source, book.size)]:
            least = least_budget(book, prices)
            for budget in [least, least + 1, 2 * least, HUGE]:
                yield book, budget, prices


class Plans(Checks):
    def test_first_choices_for_what_it_comes_to_hold(self):
        for book, budget, prices in enough_cases():
            begin, table = plan_by_hand(book, budget, prices)
            plan = plan_for(book, budget, prices)
            self.assertIs(plan.__class__, Plan)
            self.assertEqual(plan.begin, begin)
            self.assertEqual(plan.table(), table)
            self.assertEqual(list(plan.table()), sorted(table))

    def test_the_table_has_what_it_comes_to_hold_and_no_more(self):
        for book, budget, prices in enough_cases():
            plan = plan_for(book, budget, prices)
            held = {held for _, _, held in walk(book, plan)}
            self.assertEqual(set(plan.table()), {(states, letter) for states in held for letter in book.letters})

    def test_the_reader_that_keeps_to_it_loses_no_row(self):
        source = random.Random(2)
        for book, budget, prices in enough_cases():
            plan = plan_for(book, budget, prices)
            marks = marks_of(book)
            self.assertIsNone(lost_row(book, plan))
            for _, states, held in walk(book, plan):
                self.assertLessEqual(price_of(held, prices), budget)
                self.assertEqual(marks[states], marks[held])
            row = "".join(source.choices(book.letters, k=12))
            reader = Reader(book, plan)
            held = plan.begin
            for letter in row:
                reader += letter
                held = held_by_hand(book, plan, held, letter)
                self.assertEqual(reader.held, held)
                self.assertIsNone(reader.missing())

    def test_it_holds_no_more_than_the_held_width(self):
        for book in tried_books():
            width = held_width(book)
            plan = plan_for(book, width)
            self.assertLessEqual(most_held(book, plan), width)
            if width > 0:
                self.check_raises(NotEnough, {"budget": width - 1}, plan_for, book, width - 1)

    def test_edges(self):
        self.assertEqual(plan_for(Book("a", 1), 0), Plan([], {((), "a"): []}))
        self.assertEqual(plan_for(Book("ab", 3, [0], [], [(0, "a", 1)]), HUGE),
                         Plan([], {((), "a"): [], ((), "b"): []}))
        self.assertEqual(plan_for(ring("a", 2, [0]), 1), Plan([0], {((0,), "a"): [1], ((1,), "a"): [0]}))
        twins = Book("a", 2, [0, 1], [0, 1], [(0, "a", 0)])
        self.assertEqual(plan_for(twins, 100, [100, 1]).begin, (0,))
        self.assertEqual(plan_for(full_book("ab", 7), 7).begin, (0,))
        dear = Book("a", 3, [0, 1, 2], [0, 1, 2])
        self.assertEqual(plan_for(dear, 2, [3, 2, 2]), Plan([1], {((1,), "a"): [], ((), "a"): []}))

    def test_not_enough_comes_last_and_tells_the_budget(self):
        self.check_raises(NotEnough, {"budget": 1}, plan_for, FIVE, 1)
        self.check_raises(NotEnough, {"budget": 0}, plan_for, budget=0, book=FIVE)
        self.check_raises(NotEnough, {"budget": 100}, plan_for, FIVE, 100, [100] * 6)
        self.assertEqual(plan_for(FIVE, 2).begin, (0,))


class Ranks(Checks):
    def test_sets_struck_turn_by_turn(self):
        source = random.Random(8)
        ranks = set()
        for book in tried_books():
            for prices in [None, random_prices(source, book.size)]:
                most = price_of(range(book.size), prices)
                for budget in sorted({0, 1, 2, 3, most // 4, most // 2, most - 1, most, HUGE}):
                    _, due = struck_by_hand(book, budget, prices)
                    self.assertEqual(struck(book, budget, prices), due)
                    ranks |= {rank for rank, _, _ in due}
                    left = family(book, budget, prices)
                    self.assertFalse(set(left) & {states for _, states, _ in due})
                    self.assertEqual(len(left) + len(due), len([states for states in sets_of(book)
                                                                if price_of(states, prices) <= budget]))
        self.assertGreater(max(ranks), 5)

    def test_edges(self):
        self.assertEqual(struck(FIVE, 1), [(1, (0,), "a"), (1, (1,), "b")])
        self.assertEqual(struck(FIVE, 0), [])
        self.assertEqual(struck(FIVE, 6), [])
        self.assertEqual(struck(FIVE, HUGE, [100] * 6), [])
        self.assertEqual(struck(Book("abcd", 7), 3), [])
        # The letter is the first one by which something is lacking.
        both = Book("ab", 3, [0], [1, 2], [(0, "a", 1), (0, "a", 2), (0, "b", 1), (0, "b", 2), (1, "a", 1),
                                           (2, "b", 2)])
        self.assertEqual(struck(both, 1), [(1, (0,), "a")])
        line = Book("b", 5, [0], [3, 4], [(0, "b", 1), (1, "b", 2), (2, "b", 3), (2, "b", 4), (3, "b", 3)])
        self.assertEqual(struck(line, 1), [])
        up = Book("ab", 5, [0], [3, 4], [(0, "b", 1), (1, "b", 2), (2, "b", 3), (2, "b", 4), (3, "a", 3),
                                         (4, "b", 4)])
        self.assertEqual(struck(up, 1), [(1, (2,), "b"), (2, (1,), "b"), (3, (0,), "b")])
        self.assertEqual([exhausted_in(up, 1), exhausted_in(up, 0), exhausted_in(up, 2)], [3, 0, None])

    def test_by_rank_then_in_order(self):
        for book in HARD:
            for budget in range(book.size):
                found = struck(book, budget)
                self.assertEqual(found, sorted(found, key=lambda entry: (entry[0], len(entry[1]), entry[1])))

    def test_the_list_is_new(self):
        found = struck(FIVE, 1)
        found.pop()
        self.assertEqual(len(struck(FIVE, 1)), 2)


class Exhausted(Checks):
    def test_greatest_rank_of_the_first_sets(self):
        source = random.Random(9)
        for book in tried_books():
            for prices in [None, random_prices(source, book.size)]:
                most = price_of(range(book.size), prices)
                for budget in sorted({0, 1, 2, 3, most // 4, most // 2, most - 1, most, HUGE}):
                    left, gone = struck_by_hand(book, budget, prices)
                    if alike_parts(book, book.starts, left):
                        due = None
                    else:
                        due = max([rank for rank, states, _ in gone if alike_parts(book, book.starts, [states])],
                                  default=0)
                    self.assertEqual(exhausted_in(book, budget, prices), due)
                    self.assertIs(is_enough(book, budget, prices), due is None)

    def test_readers_are_not_alike_any_more_behind_so_many_letters(self):
        source = random.Random(4)
        found = set()
        for book in lively_books():
            for budget in range(book.size):
                due = letters_alike(book, budget)
                self.assertEqual(exhausted_in(book, budget), due)
                found.add(due)
            prices = random_prices(source, book.size)
            budget = source.randint(0, 8)
            self.assertEqual(exhausted_in(book, budget, prices), letters_alike(book, budget, prices))
        self.assertLessEqual({None, 0, 1, 2, 3, 4, 5, 6}, found)

    def test_edges(self):
        self.assertEqual([exhausted_in(FIVE, 0), exhausted_in(FIVE, 1), exhausted_in(FIVE, 2)], [0, 1, None])
        self.assertEqual(exhausted_in(NONE, 1), 1)
        self.assertIsNone(exhausted_in(Book("a", 1), 0))
        self.assertEqual(exhausted_in(Book("a", 1, [0], [0]), 0), 0)
        self.assertIsNone(exhausted_in(FIVE, HUGE))
        # No set that fits is alike to the starts.
        self.assertEqual(exhausted_in(ring("ab", 7, [0]).with_starts([0, 1, 2]), 2), 0)
        self.assertEqual(exhausted_in(HARD[9], 3), 9)
        self.assertEqual(exhausted_in(HARD[9], 300, [100] * 5), 9)


if __name__ == "__main__":
    unittest.main()
