"""The examples of the document, and of the README."""

import doctest
import pathlib
import unittest

from fewheld.ahead import stairs, windows
from fewheld.alike import are_alike, cover_width, covers, missing, parting, rooms
from fewheld.books import Book
from fewheld.counts import at_once, degree, greatest, many_readings, spread
from fewheld.desk import Desk
from fewheld.errors import InvalidLetters, InvalidSet
from fewheld.families import choices, exhausted_in, held_width, needed, struck
from fewheld.following import least_by_row, least_shown
from fewheld.judge import is_paper
from fewheld.mending import first_order, fitting, mend, order_for_one, plain_part, put_in
from fewheld.readers import ListRule, harmless_widths, lost_row, walk
from fewheld.rows import number_of, row_at, rows
from fewheld.texts import book_text
from tests.helpers import Checks

README = pathlib.Path(__file__).parent.parent / "README.md"


def five():
    """The book that the document calls five."""
    return Book("ab", 6, [0, 1], [5], [(0, "a", 2), (0, "a", 3), (0, "b", 4), (1, "a", 4), (1, "b", 2), (1, "b", 3),
                                       (2, "a", 5), (3, "b", 5), (4, "a", 5), (4, "b", 5)])


def wide():
    """The book that the document calls wide."""
    return Book("ab", 6, [0, 1], [5], [(0, "a", 2), (1, "a", 3), (1, "a", 4), (2, "a", 5), (2, "b", 5), (3, "a", 5),
                                       (4, "a", 5)])


def none():
    """The book that the document calls none."""
    return Book("ab", 6, [0], [3, 4, 5], [(0, "a", 1), (0, "a", 2), (0, "a", 3), (0, "b", 1), (0, "b", 2),
                                          (0, "b", 4), (1, "a", 5), (2, "b", 5), (3, "a", 5), (4, "b", 5)])


class Examples(Checks):
    def test_rows(self):
        self.assertEqual(repr([number_of("ab", "ba"), row_at("ab", 5), list(rows("ab", 1))]),
                         "[5, 'ba', ['', 'a', 'b']]")

    def test_books_put_together(self):
        one = Book("a", 1, [0], [0], [(0, "a", 0)])
        other = Book("a", 2, [0], [1], [(0, "a", 1)])
        self.assertEqual(repr([one | other, one & other, ~other]),
                         "[Book('a', 3, (0, 1), (0, 2), [(0, 'a', 0), (1, 'a', 2)]), "
                         "Book('a', 2, (0,), (1,), [(0, 'a', 1)]), Book('a', 2, (1,), (0,), [(1, 'a', 0)])]")

    def test_what_comes(self):
        book = five()
        self.assertEqual(repr([book("a"), "ab" in book, "a" in book, list(book.readings("ab")), book.coming()]),
                         "[(2, 3, 4), True, False, [(0, 3, 5), (1, 4, 5)], "
                         "[('', (0, 1)), ('a', (2, 3, 4)), ('aa', (5,)), ('aaa', ())]]")

    def test_wrong_letters(self):
        self.check_raises(InvalidLetters, {"value": "ba"}, Book, "ba", 1)

    def test_wrong_set(self):
        self.check_raises(InvalidSet, {"value": [0, 6]}, five().comes, [0, 6], "a")

    def test_alike(self):
        book = five()
        self.assertEqual(repr([are_alike(book, [0], [1]), parting(book, [2], [3]), missing(book, [4], [2]),
                               covers(book, [2, 3, 4])]),
                         "[True, 'a', 'b', [(4,), (2, 3)]]")
        self.assertEqual(repr(cover_width(book)), "(1, '')")

    def test_rooms(self):
        self.assertEqual(repr(rooms(five())), "[(False, (1, 1)), (False, (2, 2)), (True, (3, 3)), (False, (3, 3))]")

    def test_counts(self):
        third = Book("ab", 4, [0], [3], [(0, "a", 0), (0, "a", 1), (0, "b", 0), (1, "a", 2), (1, "b", 2), (2, "a", 3),
                                         (2, "b", 3)])
        two = Book("a", 2, [0], [0, 1], [(0, "a", 0), (0, "a", 1), (1, "a", 0), (1, "a", 1)])
        rise = Book("a", 2, [0], [1], [(0, "a", 0), (0, "a", 1), (1, "a", 1)])
        self.assertEqual(repr([greatest(third), at_once(third), many_readings(two, "aaa"), degree(two), degree(rise),
                               spread(rise, 3)]),
                         "[(1, 'aaa'), (4, 'aaa'), 8, None, 1, {3: 1}]")

    def test_list_rules(self):
        order = [0, 1, 3, 4, 2, 5]
        self.assertEqual(repr([harmless_widths(wide(), order), lost_row(wide(), ListRule(order, 2))]),
                         "[[1, 3, 4, 5, 6], 'ab']")
        self.assertEqual(repr(walk(wide(), ListRule(order, 2))),
                         "[('', (0, 1), (0, 1)), ('a', (2, 3, 4), (3, 4)), ('b', (), ()), ('aa', (5,), (5,)), "
                         "('ab', (5,), ())]")

    def test_budgets(self):
        book = five()
        self.assertEqual(repr([cover_width(book), held_width(book), struck(book, 1), exhausted_in(book, 1)]),
                         "[(1, ''), 2, [(1, (0,), 'a'), (1, (1,), 'b')], 1]")

    def test_choices(self):
        book = none()
        self.assertEqual(repr([held_width(book), choices(book, 2, [0], "a"), needed(book, 2, [0], "b"),
                               first_order(book, 2)]),
                         "[2, [(2, 3)], (1, 4), None]")

    def test_letters_ahead(self):
        self.assertEqual(repr([windows("ab", 1), stairs(five(), 1)]), "[['.', 'a', 'b'], [2, 1]]")

    def test_following(self):
        shown = Book("ab", 4, [0], [3], [(0, "a", 1), (0, "a", 2), (1, "a", 3), (2, "b", 3)])
        self.assertEqual(repr([least_shown(shown, shown), least_by_row(shown, shown)]), "[1, 2]")

    def test_mends(self):
        book = five()
        self.assertEqual(repr([fitting(book), mend(book, 1)]),
                         "[[(0, 'a', 4), (0, 'b', 2), (0, 'b', 3), (1, 'a', 2), (1, 'a', 3), (1, 'b', 4)], "
                         "[(1, 'b', 4)]]")
        mended = put_in(five(), [(1, "b", 4)])
        self.assertEqual(repr([plain_part(mended), order_for_one(mended)]),
                         "[Book('ab', 6, (1,), (5,), [(1, 'a', 4), (1, 'b', 4), (4, 'a', 5), (4, 'b', 5)]), "
                         "(1, 4, 2, 3, 5, 0)]")

    def test_texts(self):
        self.assertEqual(repr(book_text(Book("ab", 2, [0], [], [(0, "a", 1)]))),
                         "'letters ab\\nstates 2\\nstarts 0\\nends\\nstep 0 a 1\\n'")

    def test_papers(self):
        book = five()
        self.assertEqual(repr([is_paper(("exhausted", book, 1), [((0,), "a"), ((1,), "b")]),
                               is_paper(("exhausted", book, 1), [((0,), "b"), ((1,), "b")])]), "[True, False]")

    def test_desk(self):
        desk = Desk()
        done = desk.do_all("make s ab 4", "start s 0", "end s 3", "step s 0 a 1", "step s 0 a 2", "step s 1 a 3",
                           "step s 2 b 3")
        self.assertEqual(done, ["done"] * 7)
        self.assertEqual(repr([desk.do("width s"), desk.do("follow s s"), desk.do("enough s 1"), desk.do("ahead s 1"),
                               desk.do("growth s")]),
                         "['2 2', '1 2', 'no in 1', '1', 'at most 1']")

    def test_readme(self):
        tried = doctest.testfile(str(README), module_relative=False, optionflags=doctest.IGNORE_EXCEPTION_DETAIL)
        self.assertGreater(tried.attempted, 5)
        self.assertEqual(tried.failed, 0)


if __name__ == "__main__":
    unittest.main()
