"""What the document guarantees for all books, rules and rows."""

import itertools
import random
import unittest

from fewheld.ahead import is_enough_ahead
from fewheld.alike import cover_width
from fewheld.books import Book
from fewheld.counts import at_once, twice_read
from fewheld.families import (exhausted_in, family, first_choices, held_width, is_enough, least_budget, plan_for)
from fewheld.following import followed, least_by_row, least_shown
from fewheld.readers import ListRule, Plan, Reader, lost_row, walk
from tests.helpers import Checks, random_book, random_rows, sample_books
from tests.slow import HARD, lively_books, marks_of, parts_of, price_of, random_prices, sets_of, tried_books


def drawn_books(many, seed, most=6):
    """Many books that nobody has chosen."""
    source = random.Random(seed)
    return [random_book(source, source.choice(["a", "ab", "abc"]), source.randint(1, most)) for _ in range(many)]


def plans_within(book, budget):
    """All plans that hold at most so many states of the book."""
    fits = [states for states in sets_of(book) if len(states) <= budget]
    wants = [[part for part in fits if set(part) <= set(book.comes(states, a))]
             for states in fits for a in book.letters]
    keys = [(states, a) for states in fits for a in book.letters]
    for begin in fits:
        if set(begin) <= set(book.starts):
            for told in itertools.product(*wants):
                yield Plan(begin, dict(zip(keys, told)))


def random_holder(source, book, budget, prices):
    """A plan that never holds more than the budget."""
    fits = [states for states in sets_of(book) if price_of(states, prices) <= budget]
    table = {(states, a): source.choice([part for part in parts_of(book.comes(states, a)) if part in fits])
             for states in fits for a in book.letters}
    return Plan(source.choice([part for part in parts_of(book.starts) if part in fits]), table)


class Families(Checks):
    def test_all_plans_of_few_sets(self):
        source = random.Random(10)
        kinds = {True: 0, False: 0}
        books = [random_book(source, letters, 2) for letters in ["a", "a", "ab"] * 12] + [
            random_book(source, "a", 3) for _ in range(30)]
        for book in books:
            due = any(lost_row(book, plan) is None for plan in plans_within(book, 1))
            self.assertIs(is_enough(book, 1), due)
            kinds[due] += 1
        self.assertGreater(min(kinds.values()), 5)

    def test_enough_exactly_if_a_set_is_alike_to_the_starts(self):
        source = random.Random(15)
        for book in tried_books() + drawn_books(60, 1):
            marks = marks_of(book)
            prices = random_prices(source, book.size)
            least = least_budget(book, prices)
            for budget in [0, least - 1, least, least + 3]:
                if budget >= 0:
                    due = [states for states in family(book, budget, prices) if set(states) <= set(book.starts)
                           and marks[states] == marks[book.starts]]
                    self.assertEqual(first_choices(book, budget, prices), due)
                    self.assertIs(is_enough(book, budget, prices), bool(due))
                    self.assertIs(exhausted_in(book, budget, prices) is None, bool(due))
            self.assertIsNone(lost_row(book, plan_for(book, least, prices)))


class Ranks(Checks):
    def test_whatever_is_held_a_row_is_lost(self):
        source = random.Random(16)
        many = 0
        for book in lively_books() + drawn_books(200, 2):
            marks = marks_of(book)
            prices = random_prices(source, book.size)
            for budget in range(min(least_budget(book, prices), 12)):
                length = exhausted_in(book, budget, prices)
                for _ in range(4):
                    plan = random_holder(source, book, budget, prices)
                    self.assertIsNotNone(lost_row(book, plan))
                    behind = [row for row, states, held in walk(book, plan) if marks[states] != marks[held]]
                    self.assertLessEqual(len(behind[0]), length)
                    many += 1
        self.assertGreater(many, 500)


class One(Checks):
    def test_some_order_at_width_1(self):
        many = 0
        for book in drawn_books(60, 3, most=4) + HARD:
            if held_width(book) == 1:
                orders = itertools.permutations(range(book.size))
                self.assertTrue(any(lost_row(book, ListRule(order, 1)) is None for order in orders))
                many += 1
        self.assertGreater(many, 20)


class UniqueReadings(Checks):
    def test_held_width_is_the_number_of_useful_states_at_once(self):
        found = set()
        for book in drawn_books(400, 4) + tried_books():
            if twice_read(book) is None:
                self.assertEqual(held_width(book), at_once(book)[0])
                found.add(held_width(book))
        self.assertLessEqual({0, 1, 2, 3}, found)


class Following(Checks):
    def test_followers_of_followers(self):
        source = random.Random(18)
        many = 0
        books = {letters: [random_book(source, letters, source.randint(1, 4)) for _ in range(14)]
                 for letters in ["a", "ab"]}
        for group in books.values():
            for first, second, third in itertools.product(group, repeat=3):
                k, m = least_shown(first, second), least_shown(second, third)
                if k is not None and m is not None:
                    self.assertLessEqual(least_shown(first, third), k * m)
                    many += 1
        self.assertGreater(many, 100)

    def test_what_is_followed_by_the_row_is_followed_shown(self):
        for first, second in itertools.product(drawn_books(20, 5, most=4), repeat=2):
            if first.letters == second.letters:
                shown, by_row = least_shown(first, second), least_by_row(first, second)
                self.assertIs(shown is None, by_row is None)
                self.assertTrue(shown is None or shown <= by_row <= second.size)


class Together(Checks):
    def test_widths(self):
        for book in tried_books() + drawn_books(200, 6):
            width = held_width(book)
            self.assertGreaterEqual(width, cover_width(book)[0])
            self.assertEqual(width == 0, cover_width(book)[0] == 0)
            for k in range(book.size + 1):
                self.assertIs(is_enough_ahead(book, k, 0), k >= width)
                self.assertIs(is_enough(book, k), k >= width)
            self.assertEqual(least_by_row(book, book), width)
            self.assertLessEqual(least_shown(book, book), 1)

    def test_books_asked_before_answer_as_before(self):
        source = random.Random(20)
        books = sample_books(20) + HARD
        questions = [
            held_width, least_budget, lambda book: exhausted_in(book, 1), lambda book: family(book, 2),
            lambda book: is_enough_ahead(book, 1, 1), lambda book: least_shown(book, book), cover_width,
            lambda book: plan_for(book, book.size).table(), lambda book: book.steps(), repr,
            lambda book: [Reader(book, plan_for(book, book.size)).held, len(book)],
            lambda book: followed(book, book, 7, "", (book.starts[0],)) if book.starts else None,
        ]
        asked = list(itertools.product(range(len(questions)), range(len(books))))
        first = {(question, at): questions[question](books[at]) for question, at in asked}
        source.shuffle(asked)
        for question, at in asked:
            self.assertEqual(questions[question](books[at]), first[(question, at)])

    def test_rows_that_are_read(self):
        source = random.Random(22)
        for book in lively_books():
            plan = plan_for(book, held_width(book))
            reader = Reader(book, plan)
            for row in random_rows(source, book.letters, 4, 9):
                reader -= len(reader)
                reader += row
                self.assertIs(reader.at_end, row in book)
                self.assertIs(book.reads(reader.held, ""), row in book)
                self.assertLessEqual(len(reader.held), held_width(book))
            self.assertEqual(first_choices(book, 7), [states for states in sets_of(book)
                                                      if set(states) <= set(book.starts)
                                                      and marks_of(book)[states] == marks_of(book)[book.starts]])


if __name__ == "__main__":
    unittest.main()
