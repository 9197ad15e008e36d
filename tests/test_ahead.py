"""Windows, what follows, ahead families, what is enough ahead, stairs."""

import itertools
import random
import unittest

from fewheld.ahead import (ahead_family, choices_ahead, first_choices_ahead, following, is_enough_ahead, least_ahead,
                           stairs, windows)
from fewheld.books import Book
from fewheld.errors import (InvalidBook, InvalidCount, InvalidLetter, InvalidLetters, InvalidSet, InvalidWindow,
                            TooMany)
from fewheld.families import choices, family, first_choices, held_width, is_enough
from tests.helpers import (NO_BOOKS, NO_COUNTS, NO_LETTERS, NO_SETS, NO_SINGLE_LETTERS, NO_STRINGS, SOME_BOOK, Checks,
                           comes_by_hand, full_book, random_set, ring, short_rows)
from tests.slow import FIVE, HARD, NONE, lively_books, marks_of, parts_of, sets_of, tried_books

HUGE = 10 ** 25
BOOK = ("book", SOME_BOOK, NO_BOOKS, InvalidBook)
K = ("k", 1, NO_COUNTS, InvalidCount)
D = ("d", 1, NO_COUNTS, InvalidCount)
SOME = ("some", [1, 0], NO_SETS, InvalidSet)
LETTER = ("letter", "a", NO_SINGLE_LETTERS, InvalidLetter)
# No windows of 1 over "ab".
NO_WINDOWS = NO_STRINGS + ["", "c", "aa", "a.", ".a", "..", "ab", ". ", "A", "c.", " ", "-", "$", "a" * 1000, "\u00e4"]
WINDOW = ("window", "a", NO_WINDOWS, InvalidWindow)


def windows_by_hand(letters, d):
    """The windows, in order."""
    return [row + "." * (len(row) < d) for row in short_rows(letters, d)]


def following_by_hand(letters, d, window):
    """The windows that can be seen when the first letter has come."""
    if window == ".":
        return []
    rests = [""] if "." in window or d == 0 else [".", *letters]
    seen = {(window + rest)[1:] for rest in rests}
    return [other for other in windows_by_hand(letters, d) if other in seen]


def is_good(book, states, window, come):
    """Whether the pair of the states and the window is good behind what comes."""
    row = window.strip(".")
    one, other = comes_by_hand(book, states, row), comes_by_hand(book, come, row)
    if "." in window:
        return bool(set(one) & set(book.ends)) == bool(set(other) & set(book.ends))
    return marks_of(book)[one] == marks_of(book)[other]


def ahead_by_hand(book, k, d):
    """The pairs of the ahead family within k."""
    seen = windows_by_hand(book.letters, d)
    pairs = [(states, window) for window in seen for states in sets_of(book) if len(states) <= k]
    follow = {window: following_by_hand(book.letters, d, window) for window in seen}
    goods = {(come, window): [part for part in parts_of(come) if len(part) <= k and is_good(book, part, window, come)]
             for come in sets_of(book) for window in seen}
    while True:
        there = set(pairs)
        left = []
        for states, window in pairs:
            letters = [] if window == "." else [window[0]] if window else book.letters
            wants = [goods[(comes_by_hand(book, states, letter), behind)] for letter in letters
                     for behind in follow[window]]
            if all(any((part, behind) in there for part in want)
                   for want, (_, behind) in zip(wants, itertools.product(letters, follow[window]))):
                left.append((states, window))
        if len(left) == len(pairs):
            return pairs
        pairs = left


def is_kept_ahead(book, k, d):
    """Whether a reader that holds at most k and sees d letters ahead loses no row, found by playing it.

    What is looked at is all that comes, what is held, and the window; a play
    is lost if the end has come and just all that comes has an end.
    """
    fits = [states for states in sets_of(book) if len(states) <= k]
    seen = windows_by_hand(book.letters, d)
    ends = set(book.ends)

    def is_lost(whole, held, window):
        return window in ("", ".") and bool(set(whole) & ends) != bool(set(held) & ends)

    safe = {(whole, held, window) for _, whole in book.coming() for held in parts_of(whole) if held in fits
            for window in seen if not is_lost(whole, held, window)}
    while True:
        left = set()
        for whole, held, window in safe:
            letters = [] if window == "." else [window[0]] if window else book.letters
            if all(any((comes_by_hand(book, whole, a), part, behind) in safe
                       for part in parts_of(comes_by_hand(book, held, a)))
                   for a in letters for behind in following_by_hand(book.letters, d, window)):
                left.add((whole, held, window))
        if left == safe:
            return all(any((book.starts, held, window) in safe for held in parts_of(book.starts)) for window in seen)
        safe = left


def small_books():
    """Books for which all pairs can be gone through."""
    return [book for book in tried_books() if book.size <= 4 and len(book.letters) <= 3]


class Windows(Checks):
    def test_all_windows(self):
        for letters in ["a", "z", "ab", "bx", "abc", "abcd", "bdmz"]:
            for d in range(4):
                self.assertEqual(windows(letters, d), windows_by_hand(letters, d))

    def test_edges(self):
        self.assertEqual(windows("ab", 0), [""])
        self.assertEqual(windows("ab", 1), [".", "a", "b"])
        self.assertEqual(windows("ab", 2), [".", "a.", "b.", "aa", "ab", "ba", "bb"])
        self.assertEqual(windows("a", 3), [".", "a.", "aa.", "aaa"])
        self.assertEqual(len(windows(d=3, letters="abcd")), 85)

    def test_following(self):
        for letters in ["a", "ab", "abc", "bdmz"]:
            for d in range(4):
                for window in windows(letters, d):
                    self.assertEqual(following(letters, d, window), following_by_hand(letters, d, window))

    def test_following_by_hand(self):
        self.assertEqual(following("ab", 0, ""), [""])
        self.assertEqual(following("ab", 1, "."), [])
        self.assertEqual(following("ab", 1, "a"), [".", "a", "b"])
        self.assertEqual(following("ab", 1, "b"), [".", "a", "b"])
        self.assertEqual(following("ab", 2, "."), [])
        self.assertEqual(following("ab", 2, "b."), ["."])
        self.assertEqual(following("ab", 2, "ba"), ["a.", "aa", "ab"])
        self.assertEqual(following("ab", 3, "ba."), ["a."])
        self.assertEqual(following(window="bab", d=3, letters="ab"), ["ab.", "aba", "abb"])

    def test_followers_of_followers(self):
        for letters in ["a", "ab", "abc"]:
            for d in range(1, 4):
                for window in windows(letters, d):
                    here = {window}
                    for _ in range(d):
                        here = {behind for seen in here for behind in following(letters, d, seen)}
                    # With a full stop the letters run out; otherwise anything can be seen.
                    self.assertEqual(here, set() if "." in window else set(windows(letters, d)) if d else {""})

    def test_the_lists_are_new(self):
        for call, values in [(windows, ["ab", 1]), (following, ["ab", 1, "a"])]:
            found = call(*values)
            found.clear()
            self.assertEqual(call(*values), [".", "a", "b"])

    def test_wrong(self):
        letters = ("letters", "ab", NO_LETTERS, InvalidLetters)
        self.check_parameters(windows, letters, D)
        self.check_parameters(following, letters, D, WINDOW)
        told = {"what": "letters ahead", "limit": 3}
        for many in [4, 5, 200, HUGE]:
            self.check_raises(TooMany, told, windows, "ab", many)
            self.check_raises(TooMany, told, following, "ab", many, "no window")
            self.check_raises(InvalidLetters, {"value": "ba"}, following, "ba", many, "no window")
        for d, wrongs in [(0, [".", "a", "..", None, "b."]), (1, ["", "a.", "aa"]),
                          (2, ["", "a", "aa.", "..", "a..", ".a", "ac", "c.", "aaa"]),
                          (3, ["", "aa", "aaa.", "a.a", "aa..", "aac", "aaaa"])]:
            for window in wrongs:
                self.check_raises(InvalidWindow, {"value": window}, following, "ab", d, window)


class Families(Checks):
    def test_pairs(self):
        many = 0
        for book in small_books():
            for d in range(4 if len(book.letters) < 3 else 3):
                for k in [0, 1, 2, 5]:
                    due = ahead_by_hand(book, k, d)
                    self.assertEqual(ahead_family(book, k, d), due)
                    many += len(due) < len([pair for pair in itertools.product(
                        windows(book.letters, d), [states for states in sets_of(book) if len(states) <= k])])
        self.assertGreater(many, 30)

    def test_no_letters_ahead(self):
        for book in tried_books():
            for k in [*range(book.size + 1), HUGE]:
                self.assertEqual(ahead_family(book, k, 0), [(states, "") for states in family(book, k)])

    def test_edges(self):
        self.assertEqual(ahead_family(Book("a", 1), 0, 1), [((), "."), ((), "a")])
        self.assertEqual(ahead_family(SOME_BOOK, HUGE, 0), [((), ""), ((0,), ""), ((1,), ""), ((0, 1), "")])
        self.assertEqual(len(ahead_family(full_book("abcd", 7), 7, 3)), 85 * 128)
        found = ahead_family(FIVE, 1, 1)
        self.assertEqual(found[:3], [((), "."), ((0,), "."), ((1,), ".")])
        found.clear()
        self.assertTrue(ahead_family(FIVE, 1, 1))


class Enough(Checks):
    def test_readers_played_against_all_rows(self):
        for book in small_books():
            for d in range(3):
                for k in range(book.size + 1):
                    self.assertIs(is_enough_ahead(book, k, d), is_kept_ahead(book, k, d))

    def test_three_letters_ahead(self):
        for book in HARD[:8] + lively_books()[30:34]:
            if len(book.letters) < 3 and book.size < 5:
                least = least_ahead(book, 3)
                self.assertTrue(is_kept_ahead(book, least, 3))
                self.assertFalse(least and is_kept_ahead(book, least - 1, 3))

    def test_pairs_for_all_windows_of_the_starts(self):
        for book in small_books():
            for d in range(3):
                for k in range(book.size + 1):
                    pairs = ahead_by_hand(book, k, d)
                    firsts = {window: [states for states, seen in pairs
                                       if seen == window and set(states) <= set(book.starts)
                                       and is_good(book, states, window, book.starts)]
                              for window in windows(book.letters, d)}
                    self.assertIs(is_enough_ahead(book, k, d), all(firsts.values()))
                    for window, due in firsts.items():
                        self.assertEqual(first_choices_ahead(book, k, d, window), due)

    def test_no_letters_ahead(self):
        for book in tried_books():
            self.assertEqual(least_ahead(book, 0), held_width(book))
            for k in [*range(book.size + 1), HUGE]:
                self.assertIs(is_enough_ahead(book, k, 0), is_enough(book, k))

    def test_the_least_k(self):
        for book in tried_books():
            for d in range(4):
                least = least_ahead(book, d)
                self.assertIs(least.__class__, int)
                for k in [*range(book.size + 2), HUGE]:
                    self.assertIs(is_enough_ahead(book, k, d), k >= least)

    def test_stairs_fall_or_stay(self):
        falls = set()
        for book in tried_books():
            found = stairs(book, 3)
            self.assertEqual(found, [least_ahead(book, d) for d in range(4)])
            self.assertEqual(found, sorted(found, reverse=True))
            for d in range(4):
                self.assertEqual(stairs(book, d), found[:d + 1])
            falls.add(len(set(found)))
        self.assertEqual(falls, {1, 2, 3, 4})

    def test_edges(self):
        for book in [Book("a", 1), Book("abcd", 7), Book("ab", 3, [0], []), Book("a", 1, [], [0])]:
            self.assertEqual(stairs(book, 3), [0, 0, 0, 0])
        for book in [Book("a", 1, [0], [0]), full_book("abcd", 7), full_book("a", 1), ring("ab", 7, [0])]:
            self.assertEqual(stairs(book, 3), [1, 1, 1, 1])
        self.assertEqual(stairs(FIVE, 0), [2])
        self.assertEqual(stairs(FIVE, 3), [2, 1, 1, 1])
        self.assertEqual(stairs(NONE, 3), [2, 1, 1, 1])
        # Each letter that is seen shows of one more state whether it leads to the end in time.
        line = Book("a", 4, [0, 1, 2, 3], [3], [(0, "a", 1), (1, "a", 2), (2, "a", 3)])
        self.assertEqual(stairs(line, 3), [4, 3, 2, 1])
        self.assertEqual(stairs(ring("ab", 7, [0]).with_starts([0, 1, 2, 3]), 3), [4, 4, 4, 4])
        found = stairs(FIVE, 1)
        found.clear()
        self.assertEqual(stairs(FIVE, 1), [2, 1])


class Choices(Checks):
    def test_parts_of_what_comes(self):
        source = random.Random(12)
        for book in small_books():
            for d in range(3):
                k = source.randint(0, book.size)
                pairs = ahead_by_hand(book, k, d)
                for window in windows(book.letters, d):
                    some = random_set(source, book.size)
                    letter = source.choice(book.letters)
                    come = comes_by_hand(book, some, letter)
                    due = [states for states, seen in pairs if seen == window and set(states) <= set(come)
                           and is_good(book, states, window, come)]
                    self.assertEqual(choices_ahead(book, k, d, some, letter, window), due)

    def test_no_letters_ahead(self):
        for book in HARD:
            for k in range(book.size + 1):
                self.assertEqual(first_choices_ahead(book, k, 0, ""), first_choices(book, k))
                for letter in book.letters:
                    self.assertEqual(choices_ahead(book, k, 0, [2, 0], letter, ""), choices(book, k, [2, 0], letter))

    def test_edges(self):
        # By a the states 2, 3, 4 come of 0, of which 2 and 4 lead on by a, 3 and 4 by b.
        self.assertEqual(choices_ahead(FIVE, 1, 1, [0], "a", "a"), [(2,)])
        self.assertEqual(choices_ahead(FIVE, 1, 1, [0], "a", "b"), [(3,)])
        self.assertEqual(choices_ahead(FIVE, 2, 1, [0, 1], "a", "b"), [(3,), (4,), (2, 3), (2, 4), (3, 4)])
        self.assertEqual(choices_ahead(FIVE, 1, 1, [0], "a", "."), [(), (2,), (3,)])
        self.assertEqual(choices_ahead(FIVE, 0, 1, [4], "a", "."), [])
        self.assertEqual(choices_ahead(FIVE, 0, 2, [4], "a", "a."), [()])
        self.assertEqual(first_choices_ahead(FIVE, 1, 1, "a"), [(0,), (1,)])
        self.assertEqual(first_choices_ahead(FIVE, 1, 1, window="."), [(), (0,), (1,)])
        found = first_choices_ahead(FIVE, 1, 1, "a")
        found.clear()
        self.assertTrue(first_choices_ahead(FIVE, 1, 1, "a"))


class Wrong(Checks):
    def test_parameters(self):
        self.check_parameters(ahead_family, BOOK, K, D)
        self.check_parameters(is_enough_ahead, BOOK, K, D)
        self.check_parameters(least_ahead, BOOK, D)
        self.check_parameters(stairs, BOOK, D)
        self.check_parameters(first_choices_ahead, BOOK, K, D, WINDOW)

    def test_choices(self):
        some = SOME[:2] + (NO_SETS[::7] + [[2]], InvalidSet)
        self.check_parameters(choices_ahead, BOOK, K, D, some, LETTER, WINDOW)

    def test_more_than_three_letters_ahead(self):
        told = {"what": "letters ahead", "limit": 3}
        for many in [4, 5, HUGE]:
            self.check_raises(TooMany, told, ahead_family, SOME_BOOK, 1, many)
            self.check_raises(TooMany, told, is_enough_ahead, SOME_BOOK, 1, many)
            self.check_raises(TooMany, told, least_ahead, SOME_BOOK, many)
            self.check_raises(TooMany, told, stairs, SOME_BOOK, many)
            # What stands behind d is not looked at yet, but what stands ahead of it is.
            self.check_raises(TooMany, told, choices_ahead, SOME_BOOK, 1, many, [2], "c", 5)
            self.check_raises(TooMany, told, first_choices_ahead, SOME_BOOK, 1, many, None)
            self.check_raises(InvalidCount, {"value": -1}, choices_ahead, SOME_BOOK, -1, many, [2], "c", 5)
            self.check_raises(InvalidBook, {"value": "x"}, ahead_family, "x", 1, many)
            self.check_raises(InvalidCount, {"value": True}, is_enough_ahead, SOME_BOOK, True, many)

    def test_what_is_passed_is_kept(self):
        some = [3, 0]
        choices_ahead(FIVE, 1, 1, some, "a", "b")
        self.assertEqual(some, [3, 0])

    def test_in_any_sequence(self):
        asked = [(book, k, d) for book in HARD[:6] for k in range(3) for d in range(3)]
        first = [ahead_family(*values) for values in asked]
        random.Random(3).shuffle(asked)
        for book, k, d in asked:
            self.assertEqual(ahead_family(book, k, d), first[HARD.index(book) * 9 + k * 3 + d])


if __name__ == "__main__":
    unittest.main()
