"""No question about a book of seven states takes long."""

import random
import time
import unittest

from fewheld.ahead import ahead_family, stairs
from fewheld.alike import (Likeness, books_missing, books_parting, cover_width, covers, fewest, missing, parting, rooms)
from fewheld.books import Book
from fewheld.counts import (at_once, chain, degree, doubling, greatest, is_chain, is_doubling, many_readings,
                            same_numbers, spread, twice_read)
from fewheld.families import exhausted_in, family, least_budget, plan_for, struck
from fewheld.following import least_by_row, least_shown, row_family, shown_family
from fewheld.judge import is_paper, paper_of
from fewheld.mending import fitting, mend, order_for_one, plain_part, right_orders
from fewheld.readers import ListRule, harmless_widths, lost_alone, lost_row, most_held, walk
from tests.helpers import full_book, random_plan

SECONDS = 5
ORDER = [3, 1, 4, 0, 6, 5, 2]
EVERY = [0, 1, 2, 3, 4, 5, 6]


def turns(*cycles):
    """The steps by which each letter of "abcd" turns the states about."""
    return [(p, letter, to) for letter, cycle in zip("abcd", cycles) for p, to in enumerate(cycle)]


def heavy_books():
    """Books with many sets, classes, pairs and numbers."""
    all_turns = turns([1, 2, 3, 4, 5, 6, 0], [1, 0, 2, 3, 4, 5, 6], [0, 2, 1, 3, 4, 6, 5], [6, 5, 4, 3, 2, 1, 0])
    upward = [(p, a, q) for p in range(7) for a in "abcd" for q in range(p + 1, 7)]
    loops = [(p, a, p) for p in range(7) for a in "abcd"]
    many_sets = Book("ab", 7, [0], [6], [(p, a, (p + 1) % 7) for p in range(7) for a in "ab"] + [(0, "b", 0)])
    # Of this book 170,603 different tallies come.
    many_tallies = Book("abcd", 7, [0, 3, 4, 5], [1, 2, 3, 4, 6], [
        (0, "a", 2), (0, "b", 0), (0, "c", 3), (0, "d", 1), (1, "a", 0), (1, "b", 3), (1, "d", 6), (2, "a", 6),
        (2, "b", 6), (2, "c", 6), (2, "d", 3), (3, "a", 1), (3, "a", 3), (3, "b", 2), (3, "c", 2), (3, "d", 0),
        (3, "d", 5), (4, "a", 0), (4, "a", 1), (4, "a", 2), (4, "a", 4), (4, "a", 5), (4, "a", 6), (4, "b", 1),
        (4, "b", 5), (4, "c", 1), (4, "c", 2), (4, "c", 5), (4, "c", 6), (4, "d", 0), (4, "d", 2), (4, "d", 3),
        (4, "d", 5), (4, "d", 6), (5, "b", 1), (5, "c", 0), (6, "a", 5), (6, "b", 5), (6, "c", 1), (6, "d", 2)])
    return [full_book("abcd", 7), Book("abcd", 7), Book("abcd", 7, [0, 1, 2], [0], all_turns),
            Book("abcd", 7, EVERY, [0], all_turns), Book("abcd", 7, EVERY, EVERY, upward),
            Book("abcd", 7, EVERY, EVERY, upward + loops), many_sets, ~many_sets, many_tallies, ~many_tallies]


class Speed(unittest.TestCase):
    def check_quick(self, call, *values):
        """The call returns within some seconds."""
        begun = time.process_time()
        found = call(*values)
        self.assertLess(time.process_time() - begun, SECONDS, (call, values))
        return found

    def test_alike(self):
        for book in heavy_books():
            for call in [Likeness, cover_width, rooms]:
                self.check_quick(call, book)
            self.check_quick(covers, book, EVERY)
            self.check_quick(fewest, book, EVERY)
            self.check_quick(parting, book, EVERY, [0, 2, 4])
            self.check_quick(missing, book, EVERY, [0, 2, 4])

    def test_counts(self):
        for book in heavy_books():
            for call in [degree, greatest, at_once, twice_read]:
                self.check_quick(call, book)
            self.assertIs(is_doubling(book, self.check_quick(doubling, book)), degree(book) is None)
            for rises in range(7):
                found = self.check_quick(chain, book, rises)
                self.assertIs(is_chain(book, found), found is not None)
            self.check_quick(spread, book, 6)
            self.check_quick(many_readings, book, book.letters * (200 // len(book.letters)))

    def test_two_books(self):
        books = heavy_books()
        for one in books:
            for other in books:
                if one.letters == other.letters:
                    for call in [books_parting, books_missing, same_numbers]:
                        self.check_quick(call, one, other)

    def test_families(self):
        for book in heavy_books():
            for prices in [None, [3, 50, 100, 7, 11, 13, 99]]:
                self.check_quick(least_budget, book, prices)
                for budget in [1, 3, 70, 200]:
                    for call in [family, struck, exhausted_in]:
                        self.check_quick(call, book, budget, prices)
                self.check_quick(plan_for, book, 1000, prices)

    def test_letters_ahead(self):
        for book in heavy_books():
            self.check_quick(stairs, book, 3)
            self.check_quick(ahead_family, book, 4, 3)

    def test_followed_books(self):
        books = heavy_books()
        for one in books:
            for other in books:
                if one.letters == other.letters:
                    for call in [least_shown, least_by_row]:
                        self.check_quick(call, one, other)
                    for call in [shown_family, row_family]:
                        self.check_quick(call, one, other, 3)

    def test_mends(self):
        for book in heavy_books():
            for call in [fitting, plain_part, order_for_one]:
                self.check_quick(call, book)
            for k in [0, 1, 3, 7]:
                self.check_quick(mend, book, k)

    def test_orders(self):
        for book in heavy_books():
            steps = [(p, a, q) for p, a, q in book.steps() if p < 6 and q < 6]
            less = Book(book.letters, 6, [p for p in book.starts if p < 6], [p for p in book.ends if p < 6], steps)
            for width in range(7):
                self.check_quick(lambda: list(right_orders(less, width)))

    def test_papers(self):
        order = tuple(ORDER)
        for book in heavy_books():
            for claim in [("alike", book, (0,), (1, 2)), ("enough", book, 7), ("exhausted", book, 2),
                          ("harmless", book, order, 7), ("loses", book, order, 2), ("ahead", book, 7, 3),
                          ("shown", book, book, 3), ("doubling", book), ("degree", book, 6), ("bounded", book, 1000)]:
                paper = self.check_quick(paper_of, claim)
                self.assertIs(self.check_quick(is_paper, claim, paper), paper is not None)

    def test_rules(self):
        for book in heavy_books():
            self.check_quick(harmless_widths, book, ORDER)
            rules = [ListRule(ORDER, 3), ListRule(EVERY, 5), random_plan(random.Random(1), book.letters, 7)]
            for rule in rules:
                for call in [walk, lost_row, most_held]:
                    self.check_quick(call, book, rule)
                self.check_quick(lost_alone, book, rule, rules[0])


if __name__ == "__main__":
    unittest.main()
