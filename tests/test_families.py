"""Prices, budgets, greatest families, what is enough, choices."""

import itertools
import random
import unittest

from fewheld.alike import cover_width
from fewheld.books import Book
from fewheld.errors import InvalidBook, InvalidCount, InvalidLetter, InvalidPrices, InvalidSet
from fewheld.families import (choices, cost, exhausted_in, family, first_choices, held_width, is_enough, is_family,
                              least_budget, needed, plan_for, struck)
from tests.helpers import (NO_BOOKS, NO_COUNTS, NO_INTEGERS, NO_LISTS, NO_SETS, NO_SINGLE_LETTERS, SOME_BOOK, Checks,
                           Number, full_book, ring)
from tests.slow import (FIVE, HARD, NONE, alike_parts, come_by_hand, is_family_by_hand, keeps, lively_books, price_of,
                        random_prices, sets_of, struck_by_hand, tried_books)

HUGE = 10 ** 25
BOOK = ("book", SOME_BOOK, NO_BOOKS, InvalidBook)
BUDGET = ("budget", 1, NO_COUNTS, InvalidCount)
SOME = ("some", [1, 0], NO_SETS, InvalidSet)
LETTER = ("letter", "a", NO_SINGLE_LETTERS, InvalidLetter)
# Prices of a book of two states that are none, with the position that is told.
NO_PRICES = [(value, None) for value in NO_LISTS if value is not None] + [
    ([], None), ((), None), ([1], None), ([1, 2, 3], None), ([True], None), ([0] * 3, None), ([1] * 1000, None),
] + [([value, 1], 0) for value in NO_INTEGERS] + [((1, value), 1) for value in NO_INTEGERS] + [
    ([0, 1], 0), ([1, 0], 1), ((101, 1), 0), ([100, 101], 1), ([-1, 1], 0), ([1, 10 ** 29], 1), ([0, 0], 0),
    ([True, True], 0), ([1, True], 1), ([False, 1], 0), ([[1], [2]], 0), ([1, "1"], 1), ([101, None], 0),
]


def budgets_of(book, prices=None):
    """Budgets about all that sets of the book cost."""
    most = price_of(range(book.size), prices)
    return sorted({0, 1, 2, 3, 4, most // 3, most // 2, most - 1, most, most + 1, HUGE})


def cases(many_prices=1):
    """Books with prices and budgets."""
    source = random.Random(17)
    for book in tried_books():
        for prices in [None] + [random_prices(source, book.size) for _ in range(many_prices)]:
            for budget in budgets_of(book, prices):
                yield book, budget, prices


class Costs(Checks):
    def test_sums_of_prices(self):
        source = random.Random(5)
        for book in tried_books():
            prices = random_prices(source, book.size)
            for states in sets_of(book):
                self.assertEqual(cost(book, states), len(states))
                self.assertEqual(cost(book, list(reversed(states)), prices), price_of(states, prices))

    def test_edges(self):
        seven = Book("a", 7)
        self.assertEqual(cost(seven, [], [100] * 7), 0)
        self.assertEqual(cost(seven, [0, 1, 2, 3, 4, 5, 6], [100] * 7), 700)
        self.assertEqual(cost(seven, [6, 0], (1, 2, 3, 4, 5, 6, 7)), 8)
        self.assertEqual(cost(book=seven, some=(3,), prices=[9, 9, 9, 7, 9, 9, 9]), 7)
        self.assertEqual(cost(SOME_BOOK, [0, 1], None), 2)
        self.assertIs(cost(SOME_BOOK, [0], [Number.ONE, Number.TWO]).__class__, int)


class Greatest(Checks):
    def test_all_families_by_trying(self):
        for book in lively_books() + [Book("a", 1), Book("ab", 2), Book("a", 2, [0], [0])]:
            if book.size > 3:
                continue
            for prices in [None, [1, 3, 2][:book.size]]:
                for budget in range(7):
                    tried = [sets for many in range(9) for sets in itertools.combinations(sets_of(book), many)
                             if is_family_by_hand(book, sets, budget, prices)]
                    due = [states for states in sets_of(book) if any(states in sets for sets in tried)]
                    self.assertEqual(family(book, budget, prices), due)
                    self.assertTrue(all(is_family(book, budget, list(sets), prices) for sets in tried))

    def test_sets_struck_turn_by_turn(self):
        for book, budget, prices in cases():
            left, _ = struck_by_hand(book, budget, prices)
            self.assertEqual(family(book, budget, prices), left)

    def test_edges(self):
        self.assertEqual(family(SOME_BOOK, 0), [()])
        self.assertEqual(family(Book("a", 1), 0), [()])
        self.assertEqual(family(Book("abcd", 7), 0), [()])
        self.assertEqual(family(Book("abcd", 7), HUGE), sets_of(Book("abcd", 7)))
        self.assertEqual(family(full_book("abcd", 7), 1), [()] + [(state,) for state in range(7)])
        # In a ring each letter leads each set to one set alone.
        self.assertEqual(len(family(ring("ab", 7, [0]), 3)), 1 + 7 + 21 + 35)
        self.assertEqual(family(FIVE, 1), [(), (2,), (3,), (4,), (5,)])
        self.assertEqual(family(FIVE, 99, [100] * 6), [()])
        self.assertEqual(family(FIVE, 100, [100] * 6), family(FIVE, 1))
        self.assertEqual(family(FIVE, 3, [1, 1, 1, 1, 3, 1]), struck_by_hand(FIVE, 3, [1, 1, 1, 1, 3, 1])[0])

    def test_a_greater_budget_has_all_that_a_smaller_one_has(self):
        for book in tried_books():
            sets = [family(book, budget) for budget in range(book.size + 1)]
            for less, more in zip(sets, sets[1:]):
                self.assertLessEqual(set(less), set(more))
            self.assertEqual(sets[-1], sets_of(book))

    def test_the_list_is_new(self):
        found = family(FIVE, 2)
        found.append("more")
        self.assertNotIn("more", family(FIVE, 2))


class Enough(Checks):
    def test_readers_played_against_all_letters(self):
        for book, budget, prices in cases():
            if book.size < 5:
                due = keeps(book, budget, prices)
                self.assertIs(is_enough(book, budget, prices), due)

    def test_some_set_of_the_family_is_alike_to_the_starts(self):
        for book, budget, prices in cases():
            due = alike_parts(book, book.starts, struck_by_hand(book, budget, prices)[0])
            self.assertIs(is_enough(book, budget, prices), bool(due))
            self.assertEqual(first_choices(book, budget, prices), due)

    def test_least_budget(self):
        source = random.Random(23)
        for book in tried_books():
            for prices in [None, random_prices(source, book.size), random_prices(source, book.size)]:
                least = least_budget(book, prices)
                self.assertIs(least.__class__, int)
                self.assertTrue(alike_parts(book, book.starts, struck_by_hand(book, least, prices)[0]))
                if least > 0:
                    self.assertFalse(alike_parts(book, book.starts, struck_by_hand(book, least - 1, prices)[0]))
                self.assertTrue(is_enough(book, least, prices))
                self.assertTrue(is_enough(book, least + 1, prices))

    def test_held_width(self):
        gaps = 0
        for book in tried_books():
            width = held_width(book)
            self.assertEqual(width, least_budget(book, [1] * book.size))
            self.assertEqual(width * 100, least_budget(book, [100] * book.size))
            self.assertEqual([is_enough(book, k) for k in range(book.size + 1)],
                             [k >= width for k in range(book.size + 1)])
            self.assertGreaterEqual(width, cover_width(book)[0])
            self.assertIs(width == 0, not book.useful())
            gaps += width > cover_width(book)[0]
        self.assertGreater(gaps, 3)

    def test_edges(self):
        for book in [Book("a", 1), Book("abcd", 7), Book("a", 3, [0], []), Book("a", 3, [], [0]),
                     Book("ab", 3, [0, 1], [2], [(2, "a", 0)])]:
            self.assertEqual((held_width(book), least_budget(book, [100] * book.size)), (0, 0))
            self.assertTrue(is_enough(book, 0))
        self.assertEqual(held_width(full_book("abcd", 7)), 1)
        self.assertEqual(held_width(ring("ab", 7, [0]).with_starts([0, 1, 4])), 3)
        self.assertEqual(held_width(ring("ab", 7, [0]).with_starts([0, 1, 2, 3, 4, 5, 6])), 7)
        self.assertEqual(least_budget(FIVE, [1, 2, 3, 4, 5, 6]), 6)
        self.assertEqual((held_width(FIVE), held_width(NONE)), (2, 2))
        self.assertTrue(is_enough(FIVE, HUGE, [100] * 6))
        # The cheaper one of two alike states is held.
        twins = Book("a", 2, [0, 1], [0, 1])
        self.assertEqual([least_budget(twins, prices) for prices in ([1, 100], [100, 1], [7, 7])], [1, 1, 7])


class Choices(Checks):
    def test_choices_and_needed_states(self):
        source = random.Random(61)
        for book, budget, prices in cases():
            left, _ = struck_by_hand(book, budget, prices)
            for states in source.sample(sets_of(book), 2):
                for letter in book.letters:
                    due = alike_parts(book, come_by_hand(book, states, letter), left)
                    self.assertEqual(choices(book, budget, states, letter, prices), due)
                    self.assertEqual(choices(book, budget, list(states)[::-1], letter, prices), due)
                    common = set(due[0]).intersection(*due) if due else None
                    self.assertEqual(needed(book, budget, states, letter, prices),
                                     None if common is None else tuple(sorted(common)))

    def test_edges(self):
        self.assertEqual(choices(NONE, 2, [0], "a"), [(2, 3)])
        self.assertEqual(choices(NONE, 1, [0], "a"), [])
        self.assertIsNone(needed(NONE, 1, [0], "a"))
        self.assertEqual(needed(NONE, 2, [0], "b"), (1, 4))
        self.assertEqual(choices(NONE, 0, [], "b"), [()])
        self.assertEqual(needed(NONE, 0, [5], "b"), ())
        # Either of two alike states will do, so neither is needed.
        twins = Book("a", 3, [0], [1, 2], [(0, "a", 1), (0, "a", 2)])
        self.assertEqual(choices(twins, 1, [0], "a"), [(1,), (2,)])
        self.assertEqual(needed(twins, 1, [0], "a"), ())
        self.assertEqual(choices(twins, HUGE, [0], "a"), [(1,), (2,), (1, 2)])
        self.assertEqual(choices(twins, 3, [0], "a", [3, 4, 3]), [(2,)])
        self.assertEqual(needed(twins, 3, [0], "a", prices=[3, 4, 3]), (2,))
        self.assertEqual(first_choices(twins, 1), [(0,)])
        self.assertEqual(first_choices(FIVE, 1), [])
        self.assertEqual(first_choices(Book("a", 2, [0, 1], []), 1), [(), (0,), (1,)])

    def test_sets_that_do_not_fit_may_be_asked(self):
        self.assertEqual(choices(FIVE, 1, [0, 1], "a"), [(4,)])
        self.assertEqual(choices(FIVE, 0, [2], "b"), [()])

    def test_the_lists_are_new(self):
        for call in [lambda: choices(FIVE, 2, [0], "a"), lambda: first_choices(FIVE, 2)]:
            found = call()
            found.clear()
            self.assertTrue(call())


class AnyFamily(Checks):
    def test_parts_of_the_greatest_family(self):
        source = random.Random(31)
        both = {True: 0, False: 0}
        for book, budget, prices in cases():
            sets = family(book, budget, prices)
            self.assertTrue(is_family(book, budget, sets, prices))
            self.assertTrue(is_family(book, budget, tuple(reversed(sets)), prices))
            self.assertTrue(is_family(book, budget, [], prices))
            self.assertTrue(is_family(book, budget, [()], prices))
            some = source.sample(sets, source.randint(0, len(sets)))
            due = is_family_by_hand(book, some, budget, prices)
            both[due] += 1
            self.assertIs(is_family(book, budget, some, prices), due)
            if sets:
                self.assertFalse(is_family(book, budget, sets + [sets[-1]], prices))
            _, gone = struck_by_hand(book, budget, prices)
            for _, states, _ in gone[:3]:
                self.assertFalse(is_family(book, budget, sets + [states], prices))
        self.assertGreater(min(both.values()), 20)

    def test_sets_that_do_not_fit(self):
        every = sets_of(FIVE)
        self.assertTrue(is_family(FIVE, 6, every))
        self.assertFalse(is_family(FIVE, 5, every))
        self.assertTrue(is_family(FIVE, 600, every, [100] * 6))
        self.assertFalse(is_family(FIVE, 599, every, [100] * 6))
        self.assertTrue(is_family(FIVE, 1, [(5,), ()]))
        self.assertFalse(is_family(FIVE, 1, [(5,), ()], [1, 1, 1, 1, 1, 2]))

    def test_a_family_that_lacks_a_set(self):
        sets = [(), (0,), (2, 3), (4,), (5,)]
        self.assertTrue(is_family(FIVE, 2, sets))
        for at in range(5):
            lacking = sets[:at] + sets[at + 1:]
            self.assertIs(is_family(FIVE, 2, lacking), at == 1)

    def test_sets_told_otherwise(self):
        book = Book("a", 2, [0], [0, 1], [(p, "a", q) for p in range(2) for q in range(2)])
        self.assertTrue(is_family(book, 2, [(0, 1), (1,), (0,), ()]))
        self.assertTrue(is_family(book, 2, [(Number.ZERO, Number.ONE)]))
        for wrong in [[0, 1], (1, 0), (0, 0), (0, True), (False, 1), (0, 2), (-1, 0), (0.0, 1), (0, 1.0), "01", {0, 1},
                      None, 0, (0, None), ((0, 1),), ([0],), {0: 1}, "", b"", frozenset(), range(2)]:
            self.assertFalse(is_family(book, 2, [wrong]), wrong)
            self.assertFalse(is_family(book, 2, [(0, 1), wrong]), wrong)
            self.assertFalse(is_family(book, 2, [wrong, (), ()]), wrong)
        self.assertFalse(is_family(book, 2, [(0, 1), (0, 1)]))
        self.assertFalse(is_family(book, 2, [(), (0, 1), ()]))

    def test_any_value(self):
        for value in NO_LISTS:
            self.assertIs(is_family(SOME_BOOK, 2, value), False)
            self.assertIs(is_family(SOME_BOOK, 2, [value]), False)
            if value.__class__ is not int:
                self.assertIs(is_family(SOME_BOOK, 2, value=[(), (value,), (1,)]), False)
        self.assertIs(is_family(SOME_BOOK, 0, []), True)
        self.assertIs(is_family(SOME_BOOK, 0, ()), True)
        self.assertIs(is_family(SOME_BOOK, 0, [()]), True)
        self.assertIs(is_family(SOME_BOOK, 0, ((),)), True)
        self.assertIs(is_family(SOME_BOOK, 1, [(0,)]), False)
        self.assertIs(is_family(SOME_BOOK, 1, [(0,), (1,), ()]), True)

    def test_what_is_passed_is_kept(self):
        value = [(5,), ()]
        is_family(FIVE, 1, value)
        self.assertEqual(value, [(5,), ()])


class Wrong(Checks):
    def test_parameters(self):
        self.check_parameters(cost, BOOK, SOME)
        for call in [family, is_enough, first_choices, struck, exhausted_in]:
            self.check_parameters(call, BOOK, BUDGET)
        self.check_parameters(plan_for, BOOK, BUDGET)
        for call in [least_budget, held_width]:
            self.check_parameters(call, BOOK)
        for call in [choices, needed]:
            self.check_parameters(call, BOOK, BUDGET, SOME, LETTER)
        self.check_parameters(lambda book, budget: is_family(book, budget, "no family"), BOOK, BUDGET)

    def test_prices(self):
        calls = [(cost, [SOME_BOOK, [0]]), (family, [SOME_BOOK, 1]), (is_enough, [SOME_BOOK, 1]),
                 (least_budget, [SOME_BOOK]), (first_choices, [SOME_BOOK, 1]), (choices, [SOME_BOOK, 1, [0], "a"]),
                 (needed, [SOME_BOOK, 1, [0], "a"]), (plan_for, [SOME_BOOK, 0]), (struck, [SOME_BOOK, 1]),
                 (exhausted_in, [SOME_BOOK, 1]), (is_family, [SOME_BOOK, 1, "no family"])]
        for call, values in calls:
            for prices, position in NO_PRICES:
                self.check_raises(InvalidPrices, {"position": position}, call, *values, prices)
                self.check_raises(InvalidPrices, {"position": position}, call, *values, prices=prices)

    def test_prices_come_last(self):
        for call in [family, is_enough, first_choices, plan_for, struck, exhausted_in]:
            self.check_raises(InvalidBook, {"value": 1}, call, 1, -1, [0])
            self.check_raises(InvalidCount, {"value": -1}, call, SOME_BOOK, -1, [0])
            self.check_raises(InvalidPrices, {"position": None}, call, prices=[0], book=SOME_BOOK, budget=0)
        for call in [choices, needed]:
            self.check_raises(InvalidCount, {"value": True}, call, SOME_BOOK, True, [2], "c", [0])
            self.check_raises(InvalidSet, {"value": [2]}, call, SOME_BOOK, 0, [2], "c", [0])
            self.check_raises(InvalidLetter, {"value": "c"}, call, SOME_BOOK, 0, [1], "c", [0])
            self.check_raises(InvalidPrices, {"position": 1}, call, SOME_BOOK, 0, [1], "b", [1, 0])
        self.check_raises(InvalidBook, {"value": None}, least_budget, None, [0])
        self.check_raises(InvalidSet, {"value": 0}, cost, SOME_BOOK, 0, [0])
        self.check_raises(InvalidCount, {"value": -1}, is_family, SOME_BOOK, -1, [], [0])

    def test_what_is_passed_is_kept(self):
        prices = [3, 1, 4, 1, 5, 9]
        some = [3, 2]
        for call in [lambda: family(FIVE, 9, prices), lambda: choices(FIVE, 9, some, "a", prices),
                     lambda: plan_for(FIVE, 30, prices), lambda: least_budget(FIVE, prices),
                     lambda: needed(FIVE, 9, some, "a", prices), lambda: cost(FIVE, some, prices)]:
            call()
        self.assertEqual((prices, some), ([3, 1, 4, 1, 5, 9], [3, 2]))


class Questions(Checks):
    def test_in_any_sequence(self):
        source = random.Random(41)
        asked = [(book, k) for book in HARD for k in range(book.size)]
        calls = [family, is_enough, struck, exhausted_in, first_choices]
        first = {(call.__name__, at): call(*asked[at]) for call in calls for at in range(len(asked))}
        again = [(call, at) for call in calls for at in range(len(asked))]
        source.shuffle(again)
        for call, at in again:
            self.assertEqual(call(*asked[at]), first[(call.__name__, at)])


if __name__ == "__main__":
    unittest.main()
