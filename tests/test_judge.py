"""Claims, papers that are made, and papers that are looked at."""

import itertools
import random
import unittest

from fewheld.ahead import least_ahead
from fewheld.alike import missing, parting
from fewheld.books import Book
from fewheld.counts import degree, greatest
from fewheld.errors import InvalidClaim
from fewheld.families import family, held_width, plan_for, struck
from fewheld.following import least_shown
from fewheld.judge import KINDS, is_claim, is_paper, paper_of
from fewheld.readers import ListRule, walk
from tests.helpers import (NO_BOOKS, NO_COUNTS, NO_LISTS, NO_ROWS, NO_STRINGS, SOME_BOOK, Alike, Checks, Number, Own,
                           Touchy, full_book, random_book, random_set, ring, sample_books)
from tests.judged import TRUTHS, is_paper_by_hand
from tests.slow import FIVE, HARD, NONE, SHOWN, THIRD, WIDE, lively_books, sets_of

HUGE = 10 ** 25
ABC = Book("abc", 2, [0], [1], [(0, "c", 1)])
TWO = Book("a", 2, [0], [0, 1], [(0, "a", 0), (0, "a", 1), (1, "a", 0), (1, "a", 1)])
RISE = Book("a", 2, [0], [1], [(0, "a", 0), (0, "a", 1), (1, "a", 1)])
# A claim of each kind about a book of two states.
CLAIMS = [
    ("alike", SOME_BOOK, (0,), (0, 1)), ("parted", SOME_BOOK, (), (1,)), ("missing", SOME_BOOK, (0, 1), ()),
    ("enough", SOME_BOOK, 1), ("exhausted", SOME_BOOK, 0), ("harmless", SOME_BOOK, (1, 0), 1),
    ("loses", SOME_BOOK, (0, 1), 0), ("ahead", SOME_BOOK, 1, 1), ("shown", SOME_BOOK, SOME_BOOK, 1),
    ("doubling", SOME_BOOK), ("degree", SOME_BOOK, 1), ("bounded", SOME_BOOK, 1),
]
NO_TUPLES = [None, True, 0, [0], [], [0, 1], (0, 0), (0, 2), (2,), (-1,), (True,), (0, True), (0.0,), ("0",), "", "0",
             {0}, {}, frozenset([0]), range(1), (None,), ((0,),), Own(), Alike(), Touchy(), (0, 1, 2)]
NO_TOLD_SETS = NO_TUPLES + [(1, 0)]
NO_TOLD_ORDERS = NO_TUPLES + [(), (0,), (1,), (1, 2), (0, 1, 0), (False, 1), (1, True)]
WRONG_PARTS = {"book": NO_BOOKS, "set": NO_TOLD_SETS, "count": NO_COUNTS, "order": NO_TOLD_ORDERS,
               "d": NO_COUNTS + [4, HUGE], "rises": NO_COUNTS + [7, HUGE]}
PARTS = {"alike": ["book", "set", "set"], "parted": ["book", "set", "set"], "missing": ["book", "set", "set"],
         "enough": ["book", "count"], "exhausted": ["book", "count"], "harmless": ["book", "order", "count"],
         "loses": ["book", "order", "count"], "ahead": ["book", "count", "d"], "shown": ["book", "book", "count"],
         "doubling": ["book"], "degree": ["book", "rises"], "bounded": ["book", "count"]}
NO_CLAIMS = NO_STRINGS + [
    "alike", "doubling", (), ("doubling",), [("doubling", SOME_BOOK)], ("Doubling", SOME_BOOK), (SOME_BOOK,),
    (SOME_BOOK, "doubling"), ("", SOME_BOOK), (None, SOME_BOOK), (0, SOME_BOOK), (["alike"], SOME_BOOK, (0,), (1,)),
    ("growth", SOME_BOOK), ("doublin", SOME_BOOK), (Alike(), SOME_BOOK), (Touchy(), SOME_BOOK), (b"doubling", SOME_BOOK),
    (("doubling",), SOME_BOOK), ({}, SOME_BOOK),
]


def judged_books():
    """Books of all kinds that are not too great to be judged slowly."""
    source = random.Random(77)
    books = lively_books() + sample_books(20) + [TWO, RISE, SHOWN, Book("a", 1), full_book("ab", 2)]
    drawn = [random_book(source, source.choice(["a", "ab"]), source.randint(1, 4)) for _ in range(20)]
    return [book for book in books + drawn if book.size < 6 and len(book.letters) < 4]


def claims_about(source, book, others):
    """Claims of all kinds about the book."""
    some = [tuple(sorted(random_set(source, book.size))) for _ in range(3)]
    order = tuple(source.sample(range(book.size), book.size))
    width = held_width(book)
    most = greatest(book)
    beside = [other for other in others if other.letters == book.letters]
    yield from [(kind, book, one, other) for kind in ("alike", "parted", "missing")
                for one, other in itertools.product(some, repeat=2)]
    yield from [(kind, book, k) for kind in ("enough", "exhausted")
                for k in sorted({0, 1, 2, abs(width - 1), width, HUGE})]
    yield from [(kind, book, order, many) for kind in ("harmless", "loses") for many in [0, 1, 2, HUGE]]
    yield from [("ahead", book, k, d) for k in range(3) for d in range(3 if book.size < 4 else 2)]
    yield from [("shown", book, other, k) for other in [book] + source.sample(beside, min(4, len(beside)))
                for k in range(3)]
    yield ("doubling", book)
    yield from [("degree", book, rises) for rises in range(4)]
    yield from [("bounded", book, number) for number in ([0, 1, 2] if most is None else
                                                         [abs(most[0] - 1), most[0], most[0] + 1, HUGE])]


def all_claims():
    """Claims of all kinds, about all kinds of books."""
    source = random.Random(5)
    books = judged_books()
    return [claim for book in books for claim in claims_about(source, book, books)]


def is_true(claim):
    """Whether the claim is true."""
    kind, book, *rest = claim
    if kind in TRUTHS:
        return TRUTHS[kind](book, *rest)
    if kind == "ahead":
        return rest[0] >= least_ahead(book, rest[1])
    if kind == "shown":
        least = least_shown(book, rest[0])
        return least is not None and rest[1] >= least
    if kind == "doubling":
        return degree(book) is None
    if kind == "degree":
        return degree(book) is None or (degree(book) >= rest[0] and bool(book.useful()))
    return degree(book) == 0 and greatest(book)[0] <= rest[0]


def otherwise(source, value):
    """The value with a small part of it otherwise."""
    if isinstance(value, bool) or value is None:
        return value
    if isinstance(value, int):
        return source.choice([value + 1, value - 1, True, float(value), str(value)])
    if isinstance(value, str):
        at = source.randint(0, len(value))
        return source.choice([value[:at] + source.choice("ab.") + value[at:], value[:at] + value[at + 1:], value + "c",
                              list(value), None])
    if len(value) == 0:
        return source.choice([[], (), (0,), [0], "", None])
    at = source.randrange(len(value))
    kind = value.__class__
    part = kind([otherwise(source, value[at])])
    return source.choice([value[:at] + part + value[at + 1:], value[:at] + part + value[at + 1:],
                          value[:at] + value[at + 1:], value[:at + 1] + value[at:], value[::-1],
                          list(value), tuple(value), value + part])


class Claims(Checks):
    def test_kinds(self):
        self.assertEqual(KINDS, ("alike", "parted", "missing", "enough", "exhausted", "harmless", "loses", "ahead",
                                 "shown", "doubling", "degree", "bounded"))

    def test_each_kind(self):
        self.assertEqual([claim[0] for claim in CLAIMS], list(KINDS))
        for claim in CLAIMS + all_claims():
            self.assertIs(is_claim(claim), True)
            self.assertIs(is_claim(list(claim)), False)
            self.assertIs(is_claim(claim[:-1]), False)
            self.assertIs(is_claim(claim + (0,)), False)
            self.assertIs(is_claim(claim + (claim[-1],)), False)
            self.assertIs(is_claim(claim[1:]), False)

    def test_each_kind_has_parts_of_its_own(self):
        for claim, other in itertools.product(CLAIMS, repeat=2):
            self.assertIs(is_claim((other[0],) + claim[1:]), PARTS[claim[0]] == PARTS[other[0]] or
                          {claim[0], other[0]} <= {"enough", "exhausted", "degree", "bounded"})

    def test_one_part_otherwise(self):
        for claim in CLAIMS:
            for at, kind in enumerate(PARTS[claim[0]]):
                for wrong in WRONG_PARTS[kind]:
                    value = claim[:at + 1] + (wrong,) + claim[at + 2:]
                    self.assertIs(is_claim(value), False)
                    self.check_raises(InvalidClaim, {"value": value}, paper_of, value)
                    self.check_raises(InvalidClaim, {"value": value}, is_paper, value, None)

    def test_edges(self):
        for claim in [("enough", SOME_BOOK, HUGE), ("ahead", SOME_BOOK, HUGE, 3), ("ahead", SOME_BOOK, 0, 0),
                      ("degree", SOME_BOOK, 6), ("degree", SOME_BOOK, 0), ("bounded", SOME_BOOK, HUGE),
                      ("harmless", SOME_BOOK, (0, 1), HUGE), ("shown", FIVE, SOME_BOOK, 0),
                      ("shown", SOME_BOOK, FIVE, HUGE), ("alike", SOME_BOOK, (), ()), ("loses", Book("a", 1), (0,), 1),
                      ("alike", full_book("abcd", 7), (0, 1, 2, 3, 4, 5, 6), (6,)),
                      ("enough", SOME_BOOK, Number.ONE)]:
            self.assertIs(is_claim(claim), True)
        for value in [("shown", SOME_BOOK, ABC, 1), ("shown", ABC, SOME_BOOK, 1), ("shown", Book("b", 1), TWO, 1),
                      ("alike", FIVE, (6,), ()), ("alike", FIVE, (), (1, 0)), ("parted", FIVE, (0, 0), (1,)),
                      ("harmless", FIVE, (0, 1), 1), ("loses", FIVE, [0, 1, 2, 3, 4, 5], 1),
                      ("loses", FIVE, (0, 1, 2, 3, 4, 5, 6), 1), ("harmless", FIVE, (1, 2, 3, 4, 5, 6), 1)]:
            self.assertIs(is_claim(value), False)

    def test_any_value(self):
        for value in NO_CLAIMS + NO_BOOKS + NO_LISTS:
            self.assertIs(is_claim(value), False)
            self.check_raises(InvalidClaim, {"value": value}, paper_of, value)
            self.check_raises(InvalidClaim, {"value": value}, paper_of, claim=value)
            self.check_raises(InvalidClaim, {"value": value}, is_paper, value, [])
            self.check_raises(InvalidClaim, {"value": value}, is_paper, value=0, claim=value)


class Papers(Checks):
    def test_made_exactly_if_the_claim_is_true(self):
        kinds = {(kind, truth): 0 for kind in KINDS for truth in (True, False)}
        for claim in all_claims():
            paper = paper_of(claim)
            self.assertIs(paper is not None, is_true(claim), claim)
            if paper is not None:
                self.assertIs(is_paper(claim, paper), True, claim)
                self.assertTrue(is_paper_by_hand(claim, paper), claim)
            self.assertIs(is_paper(claim, None), False)
            kinds[(claim[0], paper is not None)] += 1
        self.assertGreater(min(kinds.values()), 4)

    def test_no_paper_of_an_untrue_claim(self):
        # What shows one thing of a book cannot show the contrary.
        claims = all_claims()
        papers = [(claim, paper_of(claim)) for claim in claims]
        for claim, paper in papers:
            if paper is None:
                for other, given in papers:
                    if given is not None and other[1] is claim[1]:
                        self.assertIs(is_paper(claim, given), is_paper_by_hand(claim, given), (claim, given))
                        self.assertIs(is_paper(claim, given), False, (claim, given))

    def test_spoilt_ones(self):
        source = random.Random(99)
        kinds = {(kind, truth): 0 for kind in KINDS for truth in (True, False)}
        claims = all_claims()
        for claim in source.sample(claims, 700) + [claim for claim in claims if claim[0] in ("doubling", "degree")]:
            paper = paper_of(claim)
            for _ in range(6 if paper is not None else 0):
                value = otherwise(source, paper)
                due = is_paper_by_hand(claim, value)
                self.assertIs(is_paper(claim, value), due, (claim, value))
                kinds[(claim[0], due)] += 1
        # The number of a class cannot be told in two ways.
        self.assertEqual(kinds.pop(("alike", True)), 0)
        self.assertGreater(min(kinds.values()), 3)

    def test_lists_may_be_tuples_and_have_more(self):
        many = 0
        for claim in all_claims():
            paper = paper_of(claim)
            if isinstance(paper, list):
                self.assertIs(is_paper(claim, tuple(paper)), True)
                self.assertIs(is_paper(claim, paper + paper), claim[0] != "enough" or not paper)
                self.assertIs(is_paper(claim, [list(part) for part in paper]), claim[0] == "bounded" or not paper)
                self.assertIs(is_paper(claim, [tuple(part) for part in paper]), True)
                many += 1
        self.assertGreater(many, 200)

    def test_any_value(self):
        for claim in all_claims()[::9] + CLAIMS:
            for value in NO_LISTS + NO_ROWS + [
                    [None], [()], [((),)], [(0,)], [(0, 1)], [((), "")], [((), "a")], [((), ())], [[]], [[0]], ["a"],
                    ([],), (0, 0, 0, 0), ("", 0, "", ""), ([], []), ([""], []), [([0], "a")], [((0,), 0)],
                    [((0,), Touchy())], [(Touchy(), "a")], [Touchy()], [[Touchy(), 0]], [(Alike(), Alike())], HUGE, -1,
                    [((0, 1), (1,))], [((True,), "a")], [(True, ())], [[True, 0]], [[1, -1]], [[1.0, 0]]]:
                self.assertIs(is_paper(claim, value), is_paper_by_hand(claim, value), (claim, value))

    def test_what_is_returned_is_new(self):
        for claim in CLAIMS + all_claims()[::7]:
            paper = paper_of(claim)
            if isinstance(paper, list):
                again = paper_of(claim)
                for part in paper:
                    if isinstance(part, list):
                        part.append(0)
                paper.append(None)
                self.assertEqual(paper_of(claim), again)
        rows, rises = paper_of(("degree", RISE, 1))
        rows.clear()
        rises.clear()
        self.assertEqual(len(paper_of(("degree", RISE, 1))[0]), 2)

    def test_what_is_passed_is_kept(self):
        value = [[0, 1], [1, 0]]
        self.assertIs(is_paper(("bounded", SOME_BOOK, 1), value), False)
        self.assertEqual(value, [[0, 1], [1, 0]])

    def test_in_any_sequence(self):
        source = random.Random(4)
        claims = all_claims()[::5]
        first = [repr(paper_of(claim)) for claim in claims]
        for at in source.sample(range(len(claims)), len(claims)):
            self.assertEqual(repr(paper_of(claims[at])), first[at])


class SetsAndRows(Checks):
    def test_numbers_of_classes(self):
        # The classes of FIVE begin with the empty set.
        self.assertEqual(paper_of(("alike", SOME_BOOK, (), ())), 0)
        self.assertIs(is_paper(("alike", SOME_BOOK, (), ()), False), False)
        number = paper_of(("alike", FIVE, (4,), (2, 3)))
        self.assertIs(number.__class__, int)
        for value in range(-1, 12):
            self.assertIs(is_paper(("alike", FIVE, (4,), (2, 3)), value), value == number)
        for value in [True, False, float(number), str(number), [number], None, HUGE]:
            self.assertIs(is_paper(("alike", FIVE, (4,), (2, 3)), value), False)
        self.assertIsNone(paper_of(("alike", FIVE, (4,), (2,))))
        for value in range(12):
            self.assertIs(is_paper(("alike", FIVE, (4,), (2,)), value), False)

    def test_rows(self):
        self.assertEqual(paper_of(("parted", FIVE, (2,), (3,))), parting(FIVE, [2], [3]))
        self.assertEqual([row for row in ["", "a", "b", "aa", "c"] if is_paper(("parted", FIVE, (2,), (3,)), row)],
                         ["a", "b"])
        self.assertEqual(paper_of(("missing", FIVE, (4,), (2,))), missing(FIVE, [4], [2]))
        self.assertEqual([row for row in ["", "a", "b", "aa", "c"] if is_paper(("missing", FIVE, (4,), (2,)), row)],
                         ["b"])
        self.assertIsNone(paper_of(("missing", FIVE, (2,), (4,))))
        self.assertEqual(paper_of(("loses", WIDE, (0, 1, 3, 4, 2, 5), 2)), "ab")
        self.assertIs(is_paper(("loses", WIDE, (0, 1, 3, 4, 2, 5), 2), "aa"), False)
        self.assertIs(is_paper(("loses", WIDE, (0, 1, 3, 4, 2, 5), 1), "ab"), False)
        # Not only the first row will do.
        turn = ring("a", 2, [0]).with_starts([0, 1])
        for row in ["", "aa", "a" * 200]:
            self.assertIs(is_paper(("loses", turn, (1, 0), 1), row), True)
            self.assertIs(is_paper(("loses", turn, (1, 0), 1), row + "a"), False)


class FamiliesAndTables(Checks):
    def test_families(self):
        paper = paper_of(("enough", FIVE, 2))
        self.assertIs(is_paper(("enough", FIVE, 2), family(FIVE, 2)), True)
        self.assertIs(is_paper(("enough", FIVE, 3), paper), True)
        self.assertIs(is_paper(("enough", FIVE, 1), paper), False)
        # A family that has no cover of the starts is none that shows it.
        self.assertIs(is_paper(("enough", FIVE, 2), [()]), False)
        self.assertIs(is_paper(("enough", FIVE, 2), [(0,), (2, 3), (4,), (5,), ()]), True)
        self.assertIs(is_paper(("enough", FIVE, 2), [(0,), (2, 3), (5,), ()]), False)
        self.assertIs(is_paper(("enough", FIVE, 2), [(0,), (2, 3), (4,), (5,), (), (4,)]), False)
        # What the plan comes to hold is a family.
        for book in HARD + lively_books():
            held = sorted({key[0] for key in plan_for(book, held_width(book)).table()})
            self.assertIs(is_paper(("enough", book, held_width(book)), held), True)

    def test_struck_sets(self):
        claim = ("exhausted", FIVE, 1)
        self.assertIs(is_paper(claim, [((0,), "a"), ((1,), "b")]), True)
        self.assertIs(is_paper(claim, [((1,), "b"), ((0,), "a")]), True)
        self.assertIs(is_paper(claim, [((0,), "b"), ((1,), "b")]), False)
        self.assertIs(is_paper(claim, [((0,), "a")]), False)
        self.assertIs(is_paper(claim, []), False)
        self.assertIs(is_paper(claim, [((0,), "a"), ((1,), "b"), ((0,), "a")]), True)
        # Sets that do not fit may stand there, too, if all that is wanted behind them stands further ahead.
        self.assertIs(is_paper(claim, [((0, 1, 2, 3, 4, 5), "a"), ((0,), "a"), ((1,), "b")]), True)
        self.assertIs(is_paper(claim, [((0,), "a"), ((1,), "b"), ((0, 1), "b")]), False)
        book = Book("a", 3, [0], [1, 2], [(0, "a", 1), (0, "a", 2), (1, "a", 0)])
        self.assertIs(is_paper(("exhausted", book, 0), []), True)
        self.assertIs(is_paper(("exhausted", book, 0), [((0, 1), "a")]), True)
        self.assertIs(is_paper(("exhausted", SOME_BOOK, 0), [((1,), "a")]), False)
        for book in HARD:
            for k in range(held_width(book)):
                entries = [(states, letter) for _, states, letter in struck(book, k)]
                self.assertIs(is_paper(("exhausted", book, k), entries), True)
                self.assertEqual(len(paper_of(("exhausted", book, k))), len(entries))
                # Struck in many turns, they cannot stand the other way round.
                turns = {rank for rank, _, _ in struck(book, k)}
                self.assertIs(is_paper(("exhausted", book, k), entries[::-1]), len(turns) < 2)

    def test_what_comes_and_is_held(self):
        claim = ("harmless", WIDE, (0, 1, 3, 4, 2, 5), 3)
        paper = paper_of(claim)
        self.assertEqual(sorted(set(paper)), sorted({(states, held) for _, states, held in walk(WIDE, ListRule(claim[2], claim[3]))}))
        # Further pairs may stand there if all that comes of them stands there, too.
        more = paper + [((), ())]
        self.assertIs(is_paper(claim, more), True)
        self.assertIs(is_paper(claim, paper + [((2, 5), (2, 5)), ((5,), (5,)), ((), ())]), True)
        self.assertIs(is_paper(claim, paper + [((2, 5), (2,))]), False)
        self.assertIs(is_paper(claim, paper + [((2,), (2, 5))]), False)
        self.assertIsNone(paper_of(("harmless", WIDE, (0, 1, 3, 4, 2, 5), 2)))

    def test_pairs_ahead(self):
        paper = paper_of(("ahead", FIVE, 1, 1))
        self.assertIs(is_paper(("ahead", FIVE, 1, 1), paper), True)
        self.assertIs(is_paper(("ahead", FIVE, 2, 1), paper), True)
        self.assertIs(is_paper(("ahead", FIVE, 1, 2), paper), False)
        self.assertIs(is_paper(("ahead", FIVE, 0, 1), paper), False)
        # One pair for each window will do for a ring.
        turn = ring("ab", 2, [0])
        pairs = [((p,), window) for p in range(2) for window in [".", "a", "b"]]
        self.assertIs(is_paper(("ahead", turn, 1, 1), pairs), True)
        for pair in pairs:
            self.assertIs(is_paper(("ahead", turn, 1, 1), [other for other in pairs if other != pair]), False)
        self.assertIs(is_paper(("ahead", turn, 1, 1), [((0,), window) for window in [".", "a", "b"]]), False)
        self.assertIs(is_paper(("ahead", turn, 1, 1), pairs + [((0,), "..")]), False)
        self.assertIs(is_paper(("ahead", Book("a", 1), 0, 3), [((), window) for window in [".", "a.", "aa.", "aaa"]]),
                      True)
        # A window that is a full stop alone wants nothing further.
        line = Book("a", 2, [0], [1], [(0, "a", 1)])
        self.assertIs(is_paper(("ahead", line, 1, 1), [((0,), "a"), ((1,), "."), ((), "a"), ((), ".")]), True)
        self.assertIs(is_paper(("ahead", line, 1, 1), [((0,), "a"), ((), "."), ((), "a")]), False)
        self.assertIs(is_paper(("ahead", line, 1, 1), [((0,), "a"), ((1,), "."), ((), ".")]), False)

    def test_pairs_shown(self):
        self.assertIs(is_paper(("shown", SHOWN, SHOWN, 1), [(p, (p,)) for p in range(4)]), True)
        self.assertIs(is_paper(("shown", SHOWN, SHOWN, 0), [(p, (p,)) for p in range(4)]), False)
        for at in range(4):
            self.assertIs(is_paper(("shown", SHOWN, SHOWN, 1), [(p, (p,)) for p in range(4) if p != at]), False)
        self.assertIs(is_paper(("shown", SHOWN, SHOWN, 1), [(p, (p,)) for p in range(4)] + [(3, ())]), False)
        self.assertIs(is_paper(("shown", SHOWN, SHOWN, 1), [(p, (p,)) for p in range(4)] + [(2, ())]), False)
        self.assertIs(is_paper(("shown", SHOWN.with_starts([]), SHOWN, 0), []), True)
        self.assertIs(is_paper(("shown", SHOWN, FIVE, 1), [(4, (4,))]), False)
        self.assertIsNone(paper_of(("shown", NONE, FIVE, 6)))


class Numbers(Checks):
    def test_doublings_and_chains(self):
        self.assertIs(is_paper(("doubling", TWO), ("", 0, "aa", "")), True)
        self.assertIs(is_paper(("doubling", TWO), ("", 0, "a", "")), False)
        self.assertIs(is_paper(("doubling", TWO), ["", 0, "aa", ""]), False)
        self.assertIsNone(paper_of(("doubling", RISE)))
        self.assertIs(is_paper(("degree", RISE, 1), (["", ""], [(0, "a", 1)])), True)
        self.assertIs(is_paper(("degree", RISE, 1), (("", ""), ((0, "a", 1),))), True)
        self.assertIs(is_paper(("degree", RISE, 0), (["", ""], [(0, "a", 1)])), False)
        self.assertIs(is_paper(("degree", RISE, 1), (["a"], [])), False)
        self.assertIs(is_paper(("degree", RISE, 0), (["a"], [])), True)
        self.assertIsNone(paper_of(("degree", RISE, 2)))
        self.assertEqual(len(paper_of(("degree", TWO, 6))[1]), 6)
        self.assertIsNone(paper_of(("degree", Book("a", 1), 0)))

    def test_bounded_numbers(self):
        claim = ("bounded", THIRD, 1)
        paper = paper_of(claim)
        self.assertIn([1, 0, 0, 0], paper)
        self.assertTrue(all(part.__class__ is list for part in paper))
        for at in range(len(paper)):
            self.assertIs(is_paper(claim, paper[:at] + paper[at + 1:]), False)
        self.assertIs(is_paper(("bounded", THIRD, 0), paper), False)
        self.assertIs(is_paper(("bounded", THIRD, HUGE), paper), True)
        self.assertIsNone(paper_of(("bounded", THIRD, 0)))
        self.assertIsNone(paper_of(("bounded", RISE, HUGE)))
        self.assertIsNone(paper_of(("bounded", TWO, HUGE)))
        # To the states that are not useful no counts come.
        book = Book("a", 4, [0, 3], [1], [(0, "a", 1), (0, "a", 2), (3, "a", 2), (2, "a", 2)])
        self.assertEqual(sorted(paper_of(("bounded", book, 1))), [[0, 0, 0, 0], [0, 1, 0, 0], [1, 0, 0, 0]])
        self.assertIs(is_paper(("bounded", book, 1), [[1, 0, 0, 0], [0, 1, 0, 0], [0, 0, 0, 0]]), True)
        self.assertIs(is_paper(("bounded", book, 1), [[1, 0, 0, 1], [0, 1, 1, 0], [0, 0, 1, 0]]), False)
        # Further counts may stand there, if all that comes of them stands there, too.
        right = [[1, 0, 0, 0], [0, 1, 0, 0], [0, 0, 0, 0]]
        self.assertIs(is_paper(("bounded", book, 1), right + [[0, 1, HUGE, HUGE]]), True)
        self.assertIs(is_paper(("bounded", book, 1), right + [[2, 0, 0, 0]]), False)
        self.assertIs(is_paper(("bounded", book, 2), right + [[2, 0, 0, 0], (0, 2, 0, 0)]), True)
        self.assertIs(is_paper(("bounded", book, 1), right + [[0, 2, 0, 0]]), False)
        # Counts at states that are not useful go on to those that are.
        odd = Book("a", 2, [0], [0], [(1, "a", 0), (0, "a", 0)])
        self.assertIs(is_paper(("bounded", odd, 1), [[1, 0]]), True)
        self.assertIs(is_paper(("bounded", odd, 2), [[1, 0], [1, 1]]), False)
        self.assertIs(is_paper(("bounded", odd, 2), [[1, 0], [1, 1], [2, 0]]), True)
        for wrong in [[1], [1, 0, 0], [True, 0], [1, False], [1.0, 0], [1, None], [1, -1], "10", {1: 0}, None, 1]:
            self.assertIs(is_paper(("bounded", odd, 9), [[1, 0], wrong]), False)

    def test_books_that_read_nothing(self):
        book = Book("ab", 2, [0], [])
        self.assertEqual(paper_of(("bounded", book, 0)), [[0, 0]])
        self.assertEqual(paper_of(("alike", book, (0,), (1,))), 0)
        self.assertIsNone(paper_of(("exhausted", book, 0)))
        self.assertIs(is_paper(("enough", book, 0), [()]), True)
        self.assertIs(is_paper(("enough", book, 0), []), False)
        self.assertEqual(set(paper_of(("enough", book, 2))), set(sets_of(book)))
        self.assertIs(is_paper(("shown", book, FIVE, 0), [(0, ())]), True)
        self.assertIs(is_paper(("harmless", book, (0, 1), 0), [((0,), ()), ((), ())]), True)
        self.assertIs(is_paper(("harmless", book, (0, 1), 0), [((0,), (0,)), ((), ())]), False)


if __name__ == "__main__":
    unittest.main()
