"""Letters, rows, their order and their numbers."""

import inspect
import itertools
import unittest

from fewheld.errors import InvalidCount, InvalidLetters, InvalidRow, TooMany
from fewheld.rows import is_ahead, is_letters, is_row, many_rows, number_of, row_at, rows
from tests.helpers import NO_COUNTS, NO_LETTERS, NO_ROWS, Checks, all_of, first_of, short_rows

LETTERS = ["a", "z", "ab", "mz", "abc", "abcd", "wxyz"]


class IsLetters(unittest.TestCase):
    def test_one_to_four_ascending_letters(self):
        for letters in LETTERS:
            self.assertIs(is_letters(letters), True)

    def test_all_strings_of_few_letters(self):
        for many in range(6):
            for word in itertools.product("abcde", repeat=many):
                due = 1 <= many <= 4 and list(word) == sorted(set(word))
                self.assertIs(is_letters("".join(word)), due)

    def test_any_other_value(self):
        for value in NO_LETTERS:
            self.assertIs(is_letters(value), False)

    def test_by_name(self):
        self.assertIs(is_letters(value="ab"), True)


class IsRow(Checks):
    def test_rows(self):
        for row in ["", "a", "b", "ab", "ba", "bbb", "ab" * 100]:
            self.assertIs(is_row("ab", row), True)

    def test_any_other_value(self):
        for value in NO_ROWS:
            self.assertIs(is_row("ab", value), False)

    def test_a_row_over_other_letters(self):
        self.assertIs(is_row("bc", "abc"), False)
        self.assertIs(is_row("bc", "cb"), True)

    def test_by_name(self):
        self.assertIs(is_row(value="a", letters="ab"), True)


class Order(Checks):
    def test_is_ahead_tells_the_order(self):
        for letters in ["a", "by", "abc"]:
            ordered = short_rows(letters, 3)
            for at, row in enumerate(ordered):
                for place, other in enumerate(ordered):
                    self.assertIs(is_ahead(letters, row, other), at < place)

    def test_shorter_ones_are_ahead(self):
        self.assertIs(is_ahead("ab", "b" * 199, "a" * 200), True)
        self.assertIs(is_ahead("ab", "a" * 200, "b" * 199), False)
        self.assertIs(is_ahead("ab", "", "a"), True)
        self.assertIs(is_ahead("ab", "", ""), False)
        self.assertIs(is_ahead("ab", row="a", other="b"), True)

    def test_rows_are_in_order(self):
        for letters in LETTERS:
            for most in range(5):
                self.assertEqual(list(rows(letters, most)), short_rows(letters, most))

    def test_rows_is_a_generator_that_makes_one_at_a_time(self):
        self.assertTrue(inspect.isgenerator(rows("ab", 1)))
        first = list(itertools.islice(rows(letters="abcd", most=200), 7))
        self.assertEqual(first, ["", "a", "b", "c", "d", "aa", "ab"])
        self.assertEqual(list(rows("x", 200)), ["x" * many for many in range(201)])

    def test_many_rows(self):
        for letters in LETTERS:
            for most in range(5):
                self.assertEqual(many_rows(letters, most), len(short_rows(letters, most)))
        self.assertEqual(many_rows("a", 200), 201)
        self.assertEqual(many_rows("ab", 200), 2 ** 201 - 1)
        self.assertEqual(many_rows(letters="abcd", most=200), (4 ** 201 - 1) // 3)

    def test_numbers(self):
        for letters in LETTERS:
            for number, row in enumerate(short_rows(letters, 4)):
                self.assertEqual(row_at(letters, number), row)
                self.assertEqual(number_of(letters, row), number)

    def test_numbers_are_plain_integers(self):
        self.assertIs(number_of("ab", "").__class__, int)
        self.assertIs(many_rows("ab", 0).__class__, int)

    def test_great_numbers(self):
        for letters in ["ab", "abc", "abcd"]:
            for number in [10 ** 29, 10 ** 30 - 1, 123456789012345678901234567890]:
                row = row_at(letters, number)
                self.assertEqual(number_of(letters, row), number)
        self.assertEqual(row_at("ab", 2 ** 90 - 1), "a" * 90)
        self.assertEqual(row_at(number=2, letters="ab"), "b")
        self.assertEqual(number_of(row="b", letters="ab"), 2)

    def test_rows_of_two_hundred_letters(self):
        for letters in LETTERS:
            row = letters[-1] * 200
            number = number_of(letters, row)
            self.assertEqual(number, many_rows(letters, 200) - 1)
            self.assertEqual(row_at(letters, number), row)

    def test_two_rows_joined(self):
        for row in ["ab" * 200, "b" * 400]:
            self.assertIs(is_row("ab", row), True)
            self.assertIs(is_ahead("ab", "b" * 200, row), True)
            self.assertGreater(number_of("ab", row), 2 ** 400 - 2)


class Wrong(Checks):
    def test_letters_are_checked_first(self):
        for value in NO_LETTERS:
            told = {"value": value}
            for call, others in [(is_row, [5]), (is_ahead, [5, 5]), (all_of(rows), [-1]), (first_of(rows), [201]),
                                 (many_rows, [None]), (row_at, [True]), (number_of, ["c"])]:
                self.check_raises(InvalidLetters, told, call, value, *others)
            self.check_raises(InvalidLetters, told, is_row, letters=value, value="a")
            self.check_raises(InvalidLetters, told, is_ahead, other="a", row="a", letters=value)
            self.check_raises(InvalidLetters, told, number_of, letters=value, row="a")
            self.check_raises(InvalidLetters, told, row_at, letters=value, number=1)
            self.check_raises(InvalidLetters, told, many_rows, letters=value, most=1)
            self.check_raises(InvalidLetters, told, first_of(rows), letters=value, most=1)

    def test_rows(self):
        for value in NO_ROWS:
            told = {"value": value}
            self.check_raises(InvalidRow, told, number_of, "ab", value)
            self.check_raises(InvalidRow, told, number_of, row=value, letters="ab")
            self.check_raises(InvalidRow, told, is_ahead, "ab", value, "a")
            self.check_raises(InvalidRow, told, is_ahead, "ab", "a", value)
            self.check_raises(InvalidRow, told, is_ahead, "ab", value, None)
            self.check_raises(InvalidRow, told, is_ahead, letters="ab", other=value, row="a")

    def test_counts(self):
        for value in NO_COUNTS:
            told = {"value": value}
            self.check_raises(InvalidCount, told, row_at, "ab", value)
            self.check_raises(InvalidCount, told, many_rows, "ab", value)
            self.check_raises(InvalidCount, told, all_of(rows), "ab", value)
            self.check_raises(InvalidCount, told, first_of(rows), most=value, letters="ab")
            self.check_raises(InvalidCount, told, row_at, number=value, letters="ab")

    def test_too_many_letters(self):
        told = {"what": "letters", "limit": 200}
        for letters in LETTERS:
            for most in [201, 1000, 10 ** 29]:
                self.check_raises(TooMany, told, many_rows, letters, most)
                self.check_raises(TooMany, told, all_of(rows), letters, most)
            self.check_raises(TooMany, told, row_at, letters, many_rows(letters, 200))
            self.check_raises(TooMany, told, row_at, letters, 10 ** 299)
        self.check_raises(TooMany, told, row_at, "a", 201)
        self.check_raises(TooMany, told, row_at, "a", 10 ** 29)
        self.check_raises(TooMany, told, row_at, "ab", 2 ** 201 - 1)
        self.assertEqual(row_at("a", 200), "a" * 200)


if __name__ == "__main__":
    unittest.main()
