"""Rules: list rules and plans, and what they hold."""

import itertools
import random
import unittest

from fewheld.books import Book
from fewheld.errors import InvalidBook, InvalidCount, InvalidLetter, InvalidOrder, InvalidSet, InvalidTable, OtherSize
from fewheld.readers import ListRule, Plan, Rule
from tests.helpers import (NO_BOOKS, NO_COUNTS, NO_INTEGERS, NO_LISTS, NO_RULES, NO_SETS, NO_SINGLE_LETTERS,
                           SOME_BOOK, Alike, Checks, Number, Own, begun_by_hand, full_book, held_by_hand, random_plan,
                           random_rules, random_set, sample_books)

BOOK = ("book", SOME_BOOK, NO_BOOKS, InvalidBook)
SOME = ("some", [1, 0], NO_SETS, InvalidSet)
LETTER = ("letter", "b", NO_SINGLE_LETTERS, InvalidLetter)
# What is no list of different integers from 0 to 6.
NO_PLAN_SETS = NO_LISTS + [[value] for value in NO_INTEGERS + [-1, 7, 8, 10 ** 29]] + [
    [0, 0], (6, 6), [0, 7], [3, True], [0, 1, 2, 3, 4, 5, 6, 0], [[0]], ["0"], [0] * 1000]
RIGHT_KEYS = [((), "a"), ((0,), "z"), ((0, 6), "m"), ((0, 1, 2, 3, 4, 5, 6), "b")]
WRONG_SETS = [(0, 0), (1, 0), (7,), (-1,), (True,), (False, 1), (0.0,), ("0",), (None,), ((0,),), (0, 10 ** 29), None,
              0, "0", frozenset([0]), Own()]
WRONG_LETTERS = ["", "ab", "A", "1", "\u00e4", 0, None, b"a", ("a",), True, Own()]
WRONG_KEYS = [None, 0, "a", "", (), ((),), ((), "a", "b"), ("a", ()), frozenset([0]), Own(), True, 1.5] + [
    (some, "a") for some in WRONG_SETS] + [((0,), letter) for letter in WRONG_LETTERS]


class Rules(Checks):
    def test_classes(self):
        self.assertEqual(ListRule.__bases__, (Rule,))
        self.assertEqual(Plan.__bases__, (Rule,))
        for made in [Rule, ListRule, Plan]:
            for name in ["begins", "holds"]:
                self.assertIn(name, vars(made))

    def test_what_is_held(self):
        source = random.Random(17)
        for book in sample_books():
            for rule in random_rules(source, book):
                self.assertEqual(rule.begins(book), begun_by_hand(book, rule))
                self.assertEqual(rule.begins(book=book), rule.begins(book))
                for _ in range(8):
                    some, letter = random_set(source, book.size), source.choice(book.letters)
                    kept = list(some)
                    due = held_by_hand(book, rule, some, letter)
                    self.assertEqual(rule.holds(book, some, letter), due)
                    self.assertEqual(rule.holds(letter=letter, some=tuple(some), book=book), due)
                    self.assertEqual(some, kept)

    def test_wrong(self):
        for rule in [ListRule([1, 0], 1), Plan([0], {})]:
            self.check_parameters(rule.begins, BOOK)
            self.check_parameters(rule.holds, BOOK, SOME, LETTER)

    def test_they_answer_as_before_beside_other_books(self):
        source = random.Random(4)
        books = [book for book in sample_books() if book.size == 4]
        for rule in random_rules(source, books[0]):
            questions = [(book, random_set(source, 4), letter) for book in books for letter in book.letters]
            told = [rule.holds(*question) for question in questions]
            self.assertEqual([rule.holds(*question) for question in questions[::-1]], told[::-1])


class ListRules(Checks):
    def test_order_and_width(self):
        rule = ListRule([2, 0, 1], 2)
        self.assertEqual((rule.order, rule.width), ((2, 0, 1), 2))
        rule = ListRule(width=0, order=(0,))
        self.assertEqual((rule.order, rule.width), ((0,), 0))
        self.assertEqual(ListRule(list(range(7)), 10 ** 25).width, 10 ** 25)
        for name in ["order", "width"]:
            with self.assertRaises(AttributeError):
                setattr(rule, name, getattr(rule, name))

    def test_repr(self):
        self.assertEqual(repr(ListRule([1, 0], 1)), "ListRule((1, 0), 1)")
        self.assertEqual(repr(ListRule((0,), 10 ** 25)), "ListRule((0,), 10000000000000000000000000)")
        self.assertEqual(repr(ListRule([Number.ONE, Number.ZERO], Number.TWO)), "ListRule((1, 0), 2)")

    def test_what_is_passed_may_be_changed_later(self):
        order = [1, 0]
        rule = ListRule(order, 1)
        order.reverse()
        self.assertEqual((rule.order, rule([0, 1])), ((1, 0), (1,)))

    def test_called(self):
        for order in itertools.permutations(range(4)):
            for width in range(6):
                rule = ListRule(order, width)
                for many in range(5):
                    for some in itertools.permutations(range(4), many):
                        due = tuple(sorted(sorted(some, key=order.index)[:width]))
                        self.assertEqual(rule(some), due)
        self.assertEqual(ListRule([3, 1, 0, 2], 2)(some=[2, 0, 1]), (0, 1))
        self.assertEqual(ListRule([3, 1, 0, 2], 10 ** 25)([2, 0, 1]), (0, 1, 2))
        self.assertEqual(ListRule([0], 0)([0]), ())

    def test_called_with_no_set(self):
        rule = ListRule([1, 0], 1)
        for value in NO_SETS:
            self.check_raises(InvalidSet, {"value": value}, rule, value)
            self.check_raises(InvalidSet, {"value": value}, rule, some=value)
        self.check_raises(InvalidSet, {"value": [2, 3]}, ListRule([1, 0, 2], 1), [2, 3])

    def test_equality(self):
        rule = ListRule([1, 0], 1)
        self.assertEqual(rule, ListRule((1, 0), 1))
        self.assertFalse(rule != ListRule((1, 0), 1))
        for other in [ListRule([0, 1], 1), ListRule([1, 0], 2), ListRule([1, 0, 2], 1), ListRule([0], 1),
                      Plan([0, 1], {}), *NO_RULES]:
            self.assertIs(rule == other, False)
            self.assertIs(rule != other, True)
        # These hold the same.
        self.assertNotEqual(ListRule([1, 0], 2), ListRule([1, 0], 3))
        self.assertNotEqual(ListRule([1, 0], 0), ListRule([0, 1], 0))

    def test_no_orders(self):
        wrong = NO_SETS + [[], (), [1], [0, 2], [0, 1, 1], [1, 2], [0, 1, 2, 3, 4, 5, 7], [0, 1, 2, 3, 4, 5, 6, 7],
                           list(range(1, 8)), [0] * 1000, list(range(1000)), [-1, 0], [0, 1, True], [0, 1, 2.0]]
        for value in wrong:
            self.check_raises(InvalidOrder, {"value": value}, ListRule, value, 1)
            self.check_raises(InvalidOrder, {"value": value}, ListRule, width=-1, order=value)
        for size in range(1, 8):
            self.assertEqual(ListRule(list(range(size))[::-1], 1).order, tuple(range(size))[::-1])

    def test_no_widths(self):
        self.check_parameters(ListRule, ("order", [1, 0], [[0, 2], [1, 1], [], None, "10"], InvalidOrder),
                              ("width", 2, NO_COUNTS, InvalidCount))

    def test_other_size(self):
        rule = ListRule([0, 2, 1], 2)
        for size in [1, 2, 4, 7]:
            book = Book("ab", size)
            told = {"one": size, "other": 3}
            self.check_raises(OtherSize, told, rule.begins, book)
            self.check_raises(OtherSize, told, rule.begins, book=book)
            self.check_raises(OtherSize, told, rule.holds, book, [0], "a")
            self.check_raises(OtherSize, told, rule.holds, letter="a", some=(), book=book)
            self.check_raises(InvalidSet, {"value": [7]}, rule.holds, book, [7], "c")
            self.check_raises(InvalidLetter, {"value": "c"}, rule.holds, book, [0], "c")


class Plans(Checks):
    def test_begin_and_table(self):
        plan = Plan([6, 2], {((0, 1), "b"): [5, 0], ((), "z"): (), ((0,), "c"): (3,), ((0,), "a"): [1]})
        self.assertEqual(plan.begin, (2, 6))
        self.assertEqual(list(plan.table().items()),
                         [(((), "z"), ()), (((0,), "a"), (1,)), (((0,), "c"), (3,)), (((0, 1), "b"), (0, 5))])
        plan = Plan(table={}, begin=())
        self.assertEqual((plan.begin, plan.table()), ((), {}))
        with self.assertRaises(AttributeError):
            plan.begin = ()

    def test_what_is_passed_may_be_changed_later(self):
        begin, held = [1, 0], [1, 0]
        table = {((0,), "b"): held, ((0,), "a"): [1]}
        plan = Plan(begin, table)
        self.assertEqual((begin, list(table.items())), ([1, 0], [(((0,), "b"), [1, 0]), (((0,), "a"), [1])]))
        begin.append(2)
        held.clear()
        table.clear()
        self.assertEqual((plan.begin, plan.table()), ((0, 1), {((0,), "a"): (1,), ((0,), "b"): (0, 1)}))

    def test_the_table_is_new(self):
        plan = Plan([0], {((0,), "a"): [0]})
        plan.table().clear()
        plan.table()[((0,), "b")] = (0,)
        self.assertEqual(plan.table(), {((0,), "a"): (0,)})
        self.assertIsNot(plan.table(), plan.table())

    def test_integers_of_a_derived_class(self):
        plan = Plan([Number.TWO], {((Number.ZERO, Number.ONE), "a"): [Number.ONE]})
        self.assertEqual(repr((plan.begin, plan.table())), "((2,), {((0, 1), 'a'): (1,)})")

    def test_equality(self):
        table = {((0,), "a"): [1, 0], ((1,), "a"): []}
        plan = Plan([0, 1], table)
        same = Plan((1, 0), {((1,), "a"): (), ((0,), "a"): (0, 1)})
        self.assertEqual(plan, same)
        self.assertFalse(plan != same)
        for other in [Plan([0], table), Plan([0, 1], {}), Plan([0, 1], {((0,), "a"): [1, 0]}),
                      Plan([0, 1], {**table, ((0,), "a"): [1]}), Plan([0, 1], {**table, ((0,), "b"): []}),
                      ListRule([0, 1], 2), *NO_RULES]:
            self.assertIs(plan == other, False)
            self.assertIs(plan != other, True)

    def test_a_plan_meets_any_book(self):
        plan = Plan([0, 3, 6], {((0,), "a"): [0, 1, 6], ((6,), "b"): [2], ((0, 6), "a"): [4], ((), "a"): [0],
                                ((0,), "x"): [0]})
        small = full_book("ab", 2)
        self.assertEqual(plan.begins(small), (0,))
        self.assertEqual(plan.begins(small.with_starts([1])), ())
        self.assertEqual(plan.begins(Book("ab", 7, [6, 2, 3])), (3, 6))
        self.assertEqual(plan.holds(small, [0], "a"), (0, 1))
        self.assertEqual(plan.holds(small, [0], "b"), ())
        self.assertEqual(plan.holds(small, [1], "a"), ())
        self.assertEqual(plan.holds(small, [], "a"), ())
        self.assertEqual(plan.holds(full_book("xy", 1), [0], "x"), (0,))
        seven = full_book("ab", 7)
        self.assertEqual(plan.holds(seven, [0], "a"), (0, 1, 6))
        self.assertEqual(plan.holds(seven, [6, 0], "a"), (4,))
        self.assertEqual(plan.holds(seven - (0, "a", 6), [0], "a"), (0, 1))
        self.assertEqual(plan.holds(seven, [6], "b"), (2,))

    def test_the_sequence_of_the_keys_has_no_effect(self):
        source = random.Random(9)
        for _ in range(10):
            plan = random_plan(source, "ab", 3)
            keys = source.sample(list(plan.table()), len(plan.table()))
            again = Plan(plan.begin, {key: plan.table()[key] for key in keys})
            self.assertEqual(again, plan)
            self.assertEqual(list(again.table().items()), sorted(plan.table().items()))

    def test_no_begins(self):
        for value in NO_PLAN_SETS:
            self.check_raises(InvalidSet, {"value": value}, Plan, value, {})
            self.check_raises(InvalidSet, {"value": value}, Plan, table=None, begin=value)

    def test_no_dicts(self):
        for value in [value for value in NO_LISTS if not isinstance(value, dict)] + [[], (), [((0,), "a")], Alike()]:
            self.check_raises(InvalidTable, {"value": None}, Plan, [0], value)
            self.check_raises(InvalidTable, {"value": None}, Plan, table=value, begin=())

    def test_wrong_keys(self):
        for wrong in WRONG_KEYS:
            for keys in [[wrong], RIGHT_KEYS[:2] + [wrong], RIGHT_KEYS + [wrong, ((8,), "a")]]:
                self.check_raises(InvalidTable, {"value": wrong}, Plan, [0], {key: [0] for key in keys})
                self.check_raises(InvalidTable, {"value": wrong}, Plan, table={key: () for key in keys}, begin=[0])

    def test_wrong_values(self):
        for value in NO_PLAN_SETS:
            for at, key in enumerate(RIGHT_KEYS):
                table = {other: [1, 6] for other in RIGHT_KEYS[:at]}
                table[key] = value
                self.check_raises(InvalidTable, {"value": key}, Plan, [0], {**table, None: [0]})

    def test_the_first_wrong_key_in_the_sequence_of_the_dict(self):
        wrong = [((9,), "a"), ((0,), "aa"), ((1,), "a")]
        for keys in itertools.permutations(wrong):
            table = {((5,), "c"): [5]}
            for key in keys:
                table[key] = [7] if key == ((1,), "a") else [0]
            self.check_raises(InvalidTable, {"value": keys[0]}, Plan, [0], table)
        self.check_raises(InvalidTable, {"value": None}, Plan, [0], {None: [0], ((9,), "a"): [0]})

    def test_strings_of_a_derived_class(self):
        class Text(str):
            pass

        plan = Plan([0], {((0,), Text("a")): [0]})
        self.assertEqual([key[1].__class__ for key in plan.table()], [str])


if __name__ == "__main__":
    unittest.main()
