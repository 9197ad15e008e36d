"""Books that are followed in other books, their readings shown, or by the row alone."""

import itertools
import random
import unittest

from fewheld.alike import books_within
from fewheld.books import Book
from fewheld.errors import InvalidBook, InvalidCount, InvalidRow, InvalidRun, NotEnough, OtherLetters
from fewheld.families import is_enough
from fewheld.following import (followed, is_enough_by_row, is_enough_shown, least_by_row, least_shown, row_family,
                               shown_family)
from tests.helpers import (NO_BOOKS, NO_COUNTS, NO_INTEGERS, NO_ROWS, NO_STRINGS, SOME_BOOK, Checks, Number, full_book,
                           random_book, ring, sample_books)
from tests.slow import FIVE, HARD, NONE, SHOWN, come_by_hand, lively_books, parts_of, sets_of

HUGE = 10 ** 25
OTHER_BOOK = Book("ab", 2, [0], [0, 1], [(0, "a", 1)])
ONE = ("one", SOME_BOOK, NO_BOOKS, InvalidBook)
OTHER = ("other", OTHER_BOOK, NO_BOOKS, InvalidBook)
K = ("k", 1, NO_COUNTS, InvalidCount)
# No runs of "a" from the starts of SOME_BOOK.
NO_RUNS = [value for value in NO_STRINGS if value.__class__ is not tuple] + [
    (), (0,), (1,), (0, 0), (1, 1), (1, 0), (0, 1, 1), (0, 2), (0, -1), [0, 1], (0, True), (False, 1), (0, 1.0), "01",
    (0, "a", 1), ((0, 1),), (None, 1), (0, None), (0, [1]), {0: 1}, range(2), (0,) * 1000,
]


def pairs_of_books():
    """Pairs of books over the same letters, of all kinds."""
    source = random.Random(6)
    books = [book for book in lively_books() + sample_books(16) if book.size < 6]
    pairs = [(one, other) for one in books for other in books if one.letters == other.letters]
    found = source.sample(pairs, 60) + [(book, book) for book in books]
    # Books with more steps, starts and ends read more, so the others can be followed in them.
    for one in books:
        size = one.size
        steps = {(source.randrange(size), source.choice(one.letters), source.randrange(size)) for _ in range(3)}
        more = Book(one.letters, size, one.starts, one.ends, sorted({*one.steps(), *steps}))
        found.append((one, more))
        if size < 4:
            found.append((one, one | random_book(source, one.letters, 2)))
    return found


def shown_by_hand(one, other, k):
    """The pairs of the shown family."""
    pairs = [(p, states) for p in range(one.size) for states in sets_of(other)
             if len(states) <= k and (p not in one.ends or set(states) & set(other.ends))]
    while True:
        there = set(pairs)
        left = [(p, states) for p, states in pairs
                if all(any((q, part) in there for part in parts_of(come_by_hand(other, states, a)))
                       for before, a, q in one.steps() if before == p)]
        if left == pairs:
            return pairs
        pairs = left


def rows_by_hand(one, other, k):
    """The pairs of the row family."""
    coming = sorted({states for _, states in one.coming()}, key=lambda states: (len(states), states))
    pairs = [(come, states) for come in coming for states in sets_of(other)
             if len(states) <= k and (not set(come) & set(one.ends) or set(states) & set(other.ends))]
    while True:
        there = set(pairs)
        left = [(come, states) for come, states in pairs
                if all(any((come_by_hand(one, come, a), part) in there
                           for part in parts_of(come_by_hand(other, states, a))) for a in one.letters)]
        if left == pairs:
            return pairs
        pairs = left


def is_followed_for(one, other, k, most):
    """Whether a follower can go along with all readings shown of rows of at most so many letters, found by playing."""
    leads = {(states, a): [part for part in parts_of(come_by_hand(other, states, a)) if len(part) <= k]
             for states in sets_of(other) for a in other.letters}

    def can_go(p, states, many, known):
        if (p, states, many) not in known:
            known[(p, states, many)] = (p not in one.ends or bool(set(states) & set(other.ends))) and (
                many == 0 or all(any(can_go(q, part, many - 1, known) for part in leads[(states, a)])
                                 for before, a, q in one.steps() if before == p))
        return known[(p, states, many)]

    known = {}
    return all(any(can_go(p, part, most, known) for part in parts_of(other.starts) if len(part) <= k)
               for p in one.starts)


class Shown(Checks):
    def test_pairs(self):
        for one, other in pairs_of_books():
            for k in [0, 1, 2, HUGE]:
                self.assertEqual(shown_family(one, other, k), shown_by_hand(one, other, k))

    def test_pairs_for_each_start(self):
        for one, other in pairs_of_books():
            for k in [0, 1, 2, HUGE]:
                pairs = shown_by_hand(one, other, k)
                due = all(any((p, part) in pairs for part in parts_of(other.starts)) for p in one.starts)
                self.assertIs(is_enough_shown(one, other, k), due)

    def test_followers_that_play(self):
        kinds = {True: 0, False: 0}
        for one, other in pairs_of_books():
            if max(one.size, other.size) < 5:
                for k in range(3):
                    due = is_followed_for(one, other, k, 12)
                    self.assertIs(is_enough_shown(one, other, k), due)
                    kinds[due] += 1
        self.assertGreater(min(kinds.values()), 50)

    def test_the_least_k(self):
        found = set()
        for one, other in pairs_of_books():
            least = least_shown(one, other)
            self.assertEqual([is_enough_shown(one, other, k) for k in range(other.size + 2)],
                             [least is not None and k >= least for k in range(other.size + 2)])
            self.assertIs(least is None, not books_within(one, other))
            found.add(least)
        self.assertLessEqual({None, 0, 1, 2}, found)

    def test_edges(self):
        nothing = Book("ab", 2)
        self.assertEqual(shown_family(nothing, nothing, 0), [(0, ()), (1, ())])
        self.assertEqual((least_shown(nothing, nothing), least_shown(nothing, FIVE)), (0, 0))
        self.assertEqual((least_shown(FIVE, nothing), least_shown(FIVE, FIVE)), (None, 1))
        # Without starts there is nothing to follow, even if ends are there.
        self.assertEqual(least_shown(FIVE.with_starts([]), FIVE), 0)
        # States that lead to no end must be followed as well, but by nothing.
        self.assertEqual(least_shown(FIVE.with_ends([]), FIVE), 0)
        self.assertEqual(least_shown(SHOWN, SHOWN), 1)
        self.assertEqual((least_shown(full_book("abcd", 7), full_book("abcd", 1)),
                          least_shown(full_book("abcd", 1), full_book("abcd", 7))), (1, 1))
        # The one letter leads on in two ways, of which the next letter tells.
        blind = Book("ab", 3, [0], [2], [(0, "a", 1), (1, "a", 2), (1, "b", 2)])
        self.assertEqual((least_shown(blind, SHOWN), least_by_row(blind, SHOWN), least_shown(SHOWN, blind)), (2, 2, 1))
        self.assertEqual(shown_family(SOME_BOOK, OTHER_BOOK, 1), [(0, (0,)), (1, (0,)), (1, (1,))])
        # To the state 2 no start comes, but its pairs stand there as well.
        apart = Book("ab", 3, [0], [0, 2])
        self.assertEqual(shown_family(apart, SOME_BOOK, 1), [(0, (1,)), (1, ()), (1, (0,)), (1, (1,)), (2, (1,))])
        found = shown_family(SOME_BOOK, OTHER_BOOK, 1)
        found.clear()
        self.assertTrue(shown_family(SOME_BOOK, OTHER_BOOK, 1))


class ByRow(Checks):
    def test_pairs(self):
        for one, other in pairs_of_books():
            for k in [0, 1, 2, HUGE]:
                self.assertEqual(row_family(one, other, k), rows_by_hand(one, other, k))

    def test_a_pair_for_the_starts(self):
        for one, other in pairs_of_books():
            for k in [0, 1, 2, HUGE]:
                pairs = rows_by_hand(one, other, k)
                due = any((one.starts, part) in pairs for part in parts_of(other.starts))
                self.assertIs(is_enough_by_row(one, other, k), due)

    def test_the_least_k(self):
        found = set()
        for one, other in pairs_of_books():
            least = least_by_row(one, other)
            self.assertEqual([is_enough_by_row(one, other, k) for k in range(other.size + 2)],
                             [least is not None and k >= least for k in range(other.size + 2)])
            self.assertIs(least is None, not books_within(one, other))
            if least is not None:
                self.assertLessEqual(least_shown(one, other), least)
            found.add(least)
        self.assertLessEqual({None, 0, 1, 2, 3}, found)

    def test_a_book_in_itself(self):
        for book in lively_books():
            for k in range(book.size + 1):
                self.assertIs(is_enough_by_row(book, book, k), is_enough(book, k))

    def test_edges(self):
        nothing = Book("ab", 2)
        self.assertEqual(row_family(nothing, nothing, 0), [((), ())])
        self.assertEqual((least_by_row(nothing, nothing), least_by_row(nothing, FIVE)), (0, 0))
        self.assertEqual((least_by_row(FIVE, nothing), least_by_row(FIVE, FIVE)), (None, 2))
        self.assertEqual(least_by_row(SHOWN, SHOWN), 2)
        self.assertEqual(least_by_row(ring("ab", 7, [0]).with_starts([0, 3, 5]), ring("ab", 7, [0, 1, 2])), None)
        self.assertEqual(row_family(SOME_BOOK, OTHER_BOOK, 1), [((), ()), ((), (0,)), ((), (1,)), ((0,), (0,)),
                                                                ((1,), (0,)), ((1,), (1,))])
        found = row_family(SOME_BOOK, OTHER_BOOK, 1)
        found.clear()
        self.assertTrue(row_family(SOME_BOOK, OTHER_BOOK, 1))


class Followed(Checks):
    def random_run(self, source, book):
        """A run from a start of the book, and its row."""
        run = [source.choice(book.starts)]
        row = ""
        for _ in range(source.randint(0, 8)):
            onward = [(a, q) for p, a, q in book.steps() if p == run[-1]]
            if onward:
                letter, state = source.choice(onward)
                row += letter
                run.append(state)
        return row, tuple(run)

    def test_the_first_sets_along_the_run(self):
        source = random.Random(14)
        many = 0
        for one, other in pairs_of_books():
            least = least_shown(one, other)
            if least is None or not one.starts:
                continue
            for k in [least, least + 1, HUGE]:
                pairs = shown_by_hand(one, other, k)
                row, run = self.random_run(source, one)
                held = followed(one, other, k, row, run)
                come = other.starts
                for at, state in enumerate(run):
                    due = [states for p, states in pairs if p == state and set(states) <= set(come)]
                    self.assertEqual(held[at], due[0])
                    self.assertTrue(state not in one.ends or set(held[at]) & set(other.ends))
                    if at < len(row):
                        come = come_by_hand(other, held[at], row[at])
                self.assertEqual(len(held), len(row) + 1)
                many += 1
        self.assertGreater(many, 100)

    def test_edges(self):
        self.assertEqual(followed(SHOWN, SHOWN, 1, "aa", (0, 1, 3)), [(0,), (1,), (3,)])
        self.assertEqual(followed(SHOWN, SHOWN, HUGE, "ab", (0, 2, 3)), [(0,), (2,), (3,)])
        self.assertEqual(followed(SHOWN, SHOWN, 1, "a", (0, 2)), [(0,), (2,)])
        self.assertEqual(followed(one=SHOWN, other=SHOWN, k=1, row="", run=(0,)), [(0,)])
        self.assertEqual(followed(SHOWN.with_ends([]), SHOWN, 0, "a", (0, 2)), [(), ()])
        turn = ring("ab", 7, [0])
        run = tuple(at % 7 for at in range(201))
        self.assertEqual(followed(turn, turn, 7, "ab" * 100, run), [(state,) for state in run])
        self.assertEqual(followed(SOME_BOOK, OTHER_BOOK, 1, "a", (Number.ZERO, Number.ONE)), [(0,), (1,)])
        found = followed(SHOWN, SHOWN, 1, "a", (0, 1))
        found.clear()
        self.assertTrue(followed(SHOWN, SHOWN, 1, "a", (0, 1)))

    def test_no_runs(self):
        for run in NO_RUNS:
            self.check_raises(InvalidRun, {"value": run}, followed, SOME_BOOK, OTHER_BOOK, 1, "a", run)
            self.check_raises(InvalidRun, {"value": run}, followed, run=run, row="a", k=0, other=FIVE, one=SOME_BOOK)
        for value in NO_INTEGERS:
            self.check_raises(InvalidRun, {"value": (value,)}, followed, SOME_BOOK, OTHER_BOOK, 1, "", (value,))
        for run in [(1,), (), (2,), (0, 0), [0]]:
            self.check_raises(InvalidRun, {"value": run}, followed, SOME_BOOK, OTHER_BOOK, 1, "", run)
        # The first state is a start, and each step is there; it need not lead to an end.
        book = Book("ab", 3, [0], [2], [(0, "a", 1), (1, "b", 2), (2, "a", 0)])
        self.assertEqual(followed(book, book, 1, "a", (0, 1)), [(0,), (1,)])
        for run in [(1, 2), (0, 2), (2, 0), (0, 1, 2), (0,)]:
            self.check_raises(InvalidRun, {"value": run}, followed, book, book, 1, "a", run)
        self.check_raises(InvalidRun, {"value": (0, 1)}, followed, book, book, 1, "b", (0, 1))

    def test_not_enough_comes_last(self):
        self.check_raises(NotEnough, {"budget": 0}, followed, SHOWN, SHOWN, 0, "a", (0, 1))
        self.check_raises(NotEnough, {"budget": HUGE}, followed, NONE, FIVE, HUGE, "", (0,))
        other = Book("abc", 1)
        self.check_raises(OtherLetters, {"one": "ab", "other": "abc"}, followed, SHOWN, other, 0, "a", (0, 1))
        self.check_raises(InvalidRun, {"value": (1,)}, followed, SHOWN, other, 0, "", (1,))
        self.check_raises(InvalidRow, {"value": "c"}, followed, SHOWN, other, 0, "c", (1,))
        self.check_raises(InvalidCount, {"value": -1}, followed, SHOWN, other, -1, "c", (1,))

    def test_what_is_passed_is_kept(self):
        run = (0, 1)
        followed(SHOWN, SHOWN, 1, "a", run)
        self.assertEqual(run, (0, 1))


class Wrong(Checks):
    def test_parameters(self):
        for call in [shown_family, row_family, is_enough_shown, is_enough_by_row]:
            self.check_parameters(call, ONE, OTHER, K)
        for call in [least_shown, least_by_row]:
            self.check_parameters(call, ONE, OTHER)
        row = ("row", "a", NO_ROWS, InvalidRow)
        run = ("run", (0, 1), NO_RUNS, InvalidRun)
        self.check_parameters(followed, ONE, OTHER, K, row, run)

    def test_other_letters_behind_single_parameters(self):
        for letters in ["a", "abc", "b", "bc"]:
            other = full_book(letters, 2)
            for call in [shown_family, row_family, is_enough_shown, is_enough_by_row]:
                self.check_raises(OtherLetters, {"one": "ab", "other": letters}, call, SOME_BOOK, other, 1)
                self.check_raises(OtherLetters, {"one": letters, "other": "ab"}, call, k=0, other=SOME_BOOK, one=other)
                self.check_raises(InvalidCount, {"value": -1}, call, SOME_BOOK, other, -1)
            for call in [least_shown, least_by_row]:
                self.check_raises(OtherLetters, {"one": "ab", "other": letters}, call, SOME_BOOK, other)
                self.check_raises(OtherLetters, {"one": letters, "other": "ab"}, call, other, SOME_BOOK)

    def test_in_any_sequence(self):
        books = [book for book in HARD if book.letters == "ab"]
        asked = list(itertools.product([shown_family, row_family], books, books, [1, 2]))
        first = {at: call(one, other, k) for at, (call, one, other, k) in enumerate(asked)}
        places = list(range(len(asked)))
        random.Random(7).shuffle(places)
        for at in places:
            call, one, other, k = asked[at]
            self.assertEqual(call(one, other, k), first[at])


if __name__ == "__main__":
    unittest.main()
