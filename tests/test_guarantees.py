"""What the document guarantees for all books, rules and rows."""

import itertools
import random
import unittest

from fewheld.ahead import is_enough_ahead
from fewheld.alike import are_alike, books_alike, cover_width, rooms
from fewheld.books import Book
from fewheld.counts import at_once, degree, greatest, twice_read
from fewheld.desk import Desk
from fewheld.families import (exhausted_in, family, first_choices, held_width, is_enough, least_budget, plan_for)
from fewheld.following import followed, least_by_row, least_shown
from fewheld.judge import is_paper, paper_of
from fewheld.mending import (first_order, fitting, is_plain, mend, opened, order_for_one, plain_part, put_in,
                             right_orders)
from fewheld.readers import ListRule, Plan, Reader, lost_row, walk
from fewheld.texts import book_text, read_book, read_rule, rule_text
from tests.helpers import Checks, random_book, random_rows, sample_books
from tests.slow import HARD, TORN, lively_books, marks_of, parts_of, price_of, random_prices, sets_of, tried_books


def drawn_books(many, seed, most=6):
    """Many books that nobody has chosen."""
    source = random.Random(seed)
    return [random_book(source, source.choice(["a", "ab", "abc"]), source.randint(1, most)) for _ in range(many)]


def plans_within(book, budget):
    """All plans that hold at most so many states of the book."""
    fits = [states for states in sets_of(book) if len(states) <= budget]
    wants = [[part for part in fits if set(part) <= set(book.comes(states, a))]
             for states in fits for a in book.letters]
    keys = [(states, a) for states in fits for a in book.letters]
    for begin in fits:
        if set(begin) <= set(book.starts):
            for told in itertools.product(*wants):
                yield Plan(begin, dict(zip(keys, told)))


def random_holder(source, book, budget, prices):
    """A plan that never holds more than the budget."""
    fits = [states for states in sets_of(book) if price_of(states, prices) <= budget]
    table = {(states, a): source.choice([part for part in parts_of(book.comes(states, a)) if part in fits])
             for states in fits for a in book.letters}
    return Plan(source.choice([part for part in parts_of(book.starts) if part in fits]), table)


class Families(Checks):
    def test_all_plans_of_few_sets(self):
        source = random.Random(10)
        kinds = {True: 0, False: 0}
        books = [random_book(source, letters, 2) for letters in ["a", "a", "ab"] * 12] + [
            random_book(source, "a", 3) for _ in range(30)]
        for book in books:
            due = any(lost_row(book, plan) is None for plan in plans_within(book, 1))
            self.assertIs(is_enough(book, 1), due)
            kinds[due] += 1
        self.assertGreater(min(kinds.values()), 5)

    def test_enough_exactly_if_a_set_is_alike_to_the_starts(self):
        source = random.Random(15)
        for book in tried_books() + drawn_books(60, 1):
            marks = marks_of(book)
            prices = random_prices(source, book.size)
            least = least_budget(book, prices)
            for budget in [0, least - 1, least, least + 3]:
                if budget >= 0:
                    due = [states for states in family(book, budget, prices) if set(states) <= set(book.starts)
                           and marks[states] == marks[book.starts]]
                    self.assertEqual(first_choices(book, budget, prices), due)
                    self.assertIs(is_enough(book, budget, prices), bool(due))
                    self.assertIs(exhausted_in(book, budget, prices) is None, bool(due))
            self.assertIsNone(lost_row(book, plan_for(book, least, prices)))


class Ranks(Checks):
    def test_whatever_is_held_a_row_is_lost(self):
        source = random.Random(16)
        many = 0
        for book in lively_books() + drawn_books(200, 2):
            marks = marks_of(book)
            prices = random_prices(source, book.size)
            for budget in range(min(least_budget(book, prices), 12)):
                length = exhausted_in(book, budget, prices)
                for _ in range(4):
                    plan = random_holder(source, book, budget, prices)
                    self.assertIsNotNone(lost_row(book, plan))
                    behind = [row for row, states, held in walk(book, plan) if marks[states] != marks[held]]
                    self.assertLessEqual(len(behind[0]), length)
                    many += 1
        self.assertGreater(many, 500)


class One(Checks):
    def test_some_order_at_width_1(self):
        many = 0
        for book in drawn_books(60, 3, most=4) + HARD:
            if held_width(book) == 1:
                orders = itertools.permutations(range(book.size))
                self.assertTrue(any(lost_row(book, ListRule(order, 1)) is None for order in orders))
                self.assertIn(order_for_one(book), list(right_orders(book, 1)))
                self.assertIsNone(lost_row(book, ListRule(first_order(book, 1), 1)))
                many += 1
        self.assertGreater(many, 20)

    def test_plain_parts_are_held_by_one(self):
        many = 0
        for book in drawn_books(120, 9) + tried_books():
            if held_width(book) <= 1:
                part = plain_part(book)
                self.assertTrue(is_plain(part) and books_alike(part, book))
                self.assertEqual(held_width(part), held_width(book))
                many += 1
        self.assertGreater(many, 60)


class UniqueReadings(Checks):
    def test_held_width_is_the_number_of_useful_states_at_once(self):
        found = set()
        for book in drawn_books(400, 4) + tried_books():
            if twice_read(book) is None:
                self.assertEqual(held_width(book), at_once(book)[0])
                found.add(held_width(book))
        self.assertLessEqual({0, 1, 2, 3}, found)


class Following(Checks):
    def test_followers_of_followers(self):
        source = random.Random(18)
        many = 0
        books = {letters: [random_book(source, letters, source.randint(1, 4)) for _ in range(14)]
                 for letters in ["a", "ab"]}
        for group in books.values():
            for first, second, third in itertools.product(group, repeat=3):
                k, m = least_shown(first, second), least_shown(second, third)
                if k is not None and m is not None:
                    self.assertLessEqual(least_shown(first, third), k * m)
                    many += 1
        self.assertGreater(many, 100)

    def test_what_is_followed_by_the_row_is_followed_shown(self):
        for first, second in itertools.product(drawn_books(20, 5, most=4), repeat=2):
            if first.letters == second.letters:
                shown, by_row = least_shown(first, second), least_by_row(first, second)
                self.assertIs(shown is None, by_row is None)
                self.assertTrue(shown is None or shown <= by_row <= second.size)


class Opened(Checks):
    def test_putting_in_what_fits(self):
        source = random.Random(27)
        fallen = 0
        for book in tried_books() + TORN + drawn_books(100, 7):
            fits = fitting(book)
            for _ in range(3):
                mended = put_in(book, source.sample(fits, source.randint(0, len(fits))))
                # What each state reads is the same; so all sets are parted as they were.
                marks, mended_marks = marks_of(book), marks_of(mended)
                self.assertEqual(len(set(zip(marks.values(), mended_marks.values()))), len(set(marks.values())))
                self.assertEqual(rooms(mended), rooms(book))
                if book.size < 4:
                    together = book | mended
                    for state in range(book.size):
                        self.assertTrue(are_alike(together, [state], [state + book.size]))
                self.assertLessEqual(held_width(mended), held_width(book))
                fallen += held_width(mended) < held_width(book)
        self.assertGreater(fallen, 10)

    def test_held_width_1_exactly_if_the_cover_width_is_1(self):
        kinds = set()
        for book in tried_books() + TORN + drawn_books(300, 8):
            book = opened(book)
            self.assertIs(held_width(book) == 1, cover_width(book)[0] == 1)
            kinds.add((held_width(book) == 1, held_width(book) > 1))
        self.assertEqual(len(kinds), 3)

    def test_mended_books(self):
        for book in TORN:
            for k in range(1, held_width(book)):
                left = mend(book, k)
                if left is not None:
                    mended = put_in(book, left)
                    self.assertTrue(books_alike(mended, book))
                    self.assertLessEqual(held_width(mended), k)
                    self.assertIsNone(lost_row(mended, plan_for(mended, k)))


class Together(Checks):
    def test_widths(self):
        for book in tried_books() + drawn_books(200, 6):
            width = held_width(book)
            self.assertGreaterEqual(width, cover_width(book)[0])
            self.assertEqual(width == 0, cover_width(book)[0] == 0)
            for k in range(book.size + 1):
                self.assertIs(is_enough_ahead(book, k, 0), k >= width)
                self.assertIs(is_enough(book, k), k >= width)
            self.assertEqual(least_by_row(book, book), width)
            self.assertLessEqual(least_shown(book, book), 1)

    def test_books_asked_before_answer_as_before(self):
        source = random.Random(20)
        books = sample_books(20) + HARD
        questions = [
            held_width, least_budget, lambda book: exhausted_in(book, 1), lambda book: family(book, 2),
            lambda book: is_enough_ahead(book, 1, 1), lambda book: least_shown(book, book), cover_width,
            lambda book: plan_for(book, book.size).table(), lambda book: book.steps(), repr,
            lambda book: [Reader(book, plan_for(book, book.size)).held, len(book)],
            lambda book: followed(book, book, 7, "", (book.starts[0],)) if book.starts else None,
            lambda book: [fitting(book), opened(book), mend(book, 1), plain_part(book), order_for_one(book)],
            lambda book: paper_of(("exhausted", book, 1)), lambda book: paper_of(("alike", book, (), book.starts)),
            book_text, lambda book: read_book(book_text(book)), lambda book: [degree(book), greatest(book)],
        ]
        asked = list(itertools.product(range(len(questions)), range(len(books))))
        first = {(question, at): questions[question](books[at]) for question, at in asked}
        source.shuffle(asked)
        for question, at in asked:
            self.assertEqual(questions[question](books[at]), first[(question, at)])

    def test_claims_and_answers(self):
        for book in tried_books() + TORN:
            width = held_width(book)
            order = tuple(range(book.size))
            desk = Desk()
            desk["book"] = book
            self.assertEqual(desk.do("width book"), f"{width} {cover_width(book)[0]}")
            for k in range(book.size + 1):
                kind = "enough" if k >= width else "exhausted"
                self.assertTrue(is_paper((kind, book, k), paper_of((kind, book, k))))
                letters = exhausted_in(book, k)
                self.assertEqual(desk.do(f"enough book {k}"), "yes" if letters is None else f"no in {letters}")
                row = lost_row(book, ListRule(order, k))
                self.assertEqual(paper_of(("loses", book, order, k)), row)
                self.assertIs(paper_of(("harmless", book, order, k)) is None, row is not None)
                told = desk.do(f"loses book {k} " + " ".join(str(state) for state in order))
                self.assertEqual(told, "nothing" if row is None else row or "-")
                rule = read_rule(rule_text(ListRule(order, k)))
                self.assertEqual(lost_row(read_book(book_text(book)), rule), row)

    def test_rows_that_are_read(self):
        source = random.Random(22)
        for book in lively_books():
            plan = plan_for(book, held_width(book))
            reader = Reader(book, plan)
            for row in random_rows(source, book.letters, 4, 9):
                reader -= len(reader)
                reader += row
                self.assertIs(reader.at_end, row in book)
                self.assertIs(book.reads(reader.held, ""), row in book)
                self.assertLessEqual(len(reader.held), held_width(book))
            self.assertEqual(first_choices(book, 7), [states for states in sets_of(book)
                                                      if set(states) <= set(book.starts)
                                                      and marks_of(book)[states] == marks_of(book)[book.starts]])


if __name__ == "__main__":
    unittest.main()
