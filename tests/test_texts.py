"""The texts of books and of list rules, and the wrong lines of strings that are none."""

import itertools
import random
import unittest

from fewheld.books import Book
from fewheld.errors import InvalidBook, InvalidRule, InvalidText
from fewheld.readers import ListRule, Plan
from fewheld.texts import book_text, read_book, read_rule, rule_text
from tests.helpers import NO_BOOKS, NO_RULES, NO_STRINGS, Checks, full_book, random_book, sample_books
from tests.slow import FIVE, tried_books

HUGE = 10 ** 25
LINES = ["letters ab", "states 3", "starts 0 2", "ends 1", "step 0 a 0", "step 0 a 1", "step 0 b 1", "step 2 a 0"]
BOOK = Book("ab", 3, [0, 2], [1], [(0, "a", 0), (0, "a", 1), (0, "b", 1), (2, "a", 0)])
NO_NUMBERS = ["", "00", "01", "-1", "+1", "1.0", "a", "x", "1_0", "0x1", "one", "None", "True", "\u0661", "1a", "0\t"]


def text_of(lines):
    """The text with these lines."""
    return "".join(line + "\n" for line in lines)


class Texts(Checks):
    def check_wrong(self, line, text):
        """The text of a book is wrong in this line."""
        self.check_raises(InvalidText, {"line": line}, read_book, text)
        self.check_raises(InvalidText, {"line": line}, read_book, text=text)

    def check_wrong_line(self, at, line):
        """The text of a book is wrong if this line, counted from 0, is put in the place of the right one."""
        self.check_wrong(at + 1, text_of(LINES[:at] + [line] + LINES[at + 1:]))
        # What is behind does not matter, nor whether there is anything.
        self.check_wrong(at + 1, text_of(LINES[:at] + [line]))
        self.check_wrong(at + 1, text_of(LINES[:at] + [line, "x", ""]) + "no line feed")


class BookTexts(Texts):
    def test_written_by_hand(self):
        self.assertEqual(book_text(BOOK), text_of(LINES))
        self.assertEqual(book_text(Book("a", 1)), "letters a\nstates 1\nstarts\nends\n")
        self.assertEqual(book_text(book=Book("bdmz", 7, [6, 0], list(range(7)), [(6, "z", 0), (0, "m", 6)])),
                         "letters bdmz\nstates 7\nstarts 0 6\nends 0 1 2 3 4 5 6\nstep 0 m 6\nstep 6 z 0\n")

    def test_each_line_tells_a_part(self):
        for book in sample_books(60):
            lines = book_text(book).split("\n")
            self.assertEqual(lines[0], "letters " + book.letters)
            self.assertEqual(lines[1], "states " + str(book.size))
            self.assertEqual(lines[2].split(" "), ["starts"] + [str(p) for p in book.starts])
            self.assertEqual(lines[3].split(" "), ["ends"] + [str(p) for p in book.ends])
            self.assertEqual(lines[4:-1], ["step " + str(p) + " " + a + " " + str(q) for p, a, q in book.steps()])
            self.assertEqual(lines[-1], "")

    def test_read_back(self):
        for book in sample_books(100) + tried_books():
            self.assertEqual(read_book(book_text(book)), book)
            self.assertEqual(book_text(read_book(book_text(book))), book_text(book))

    def test_read_by_hand(self):
        self.assertEqual(read_book(text_of(LINES)), BOOK)
        self.assertEqual(read_book(text="letters xyz\nstates 2\nstarts\nends\nstep 1 y 1\n"),
                         Book("xyz", 2, [], [], [(1, "y", 1)]))
        self.assertEqual(read_book("letters a\nstates 1\nstarts 0\nends 0\nstep 0 a 0\n"), full_book("a", 1))

    def test_wrong_book(self):
        self.check_parameters(book_text, ("book", BOOK, NO_BOOKS, InvalidBook))


class WrongBookTexts(Texts):
    def test_no_strings(self):
        for value in NO_STRINGS:
            self.check_wrong(None, value)

    def test_lines_left_out_at_the_end(self):
        for many in range(4):
            self.check_wrong(many + 1, text_of(LINES[:many]))
        for many in range(4, len(LINES) + 1):
            self.assertEqual(read_book(text_of(LINES[:many])).steps(), BOOK.steps()[:many - 4])
        self.check_wrong(1, "")

    def test_lines_left_out(self):
        for at in range(4):
            self.check_wrong(at + 1, text_of(LINES[:at] + LINES[at + 1:]))
        for at in range(4, len(LINES)):
            self.assertEqual(len(read_book(text_of(LINES[:at] + LINES[at + 1:]))), 3)

    def test_lines_doubled(self):
        for at in range(len(LINES)):
            self.check_wrong(at + 2, text_of(LINES[:at + 1] + LINES[at:]))

    def test_lines_exchanged(self):
        for one, other in itertools.combinations(range(len(LINES)), 2):
            lines = list(LINES)
            lines[one], lines[other] = lines[other], lines[one]
            self.check_wrong(one + 1 if one < 4 else one + 2, text_of(lines))

    def test_without_the_last_line_feed(self):
        for many in range(1, len(LINES) + 1):
            self.check_wrong(many, text_of(LINES[:many])[:-1])
        self.check_wrong(len(LINES) + 1, text_of(LINES) + "step 2 b 2")
        self.check_wrong(len(LINES) + 1, text_of(LINES) + " ")
        self.check_wrong(2, "letters ab\nsta")
        self.check_wrong(1, "letters ab")
        self.check_wrong(1, "x")
        # A line is wrong ahead of one that has no line feed.
        self.check_wrong(1, "letters ba\nstates 3")

    def test_lines_too_many(self):
        for more in ["", " ", "x", "letters ab", "ends 1", "step 0 a 0", "step 2 a 0"]:
            self.check_wrong(len(LINES) + 1, text_of(LINES + [more]))
            self.check_wrong(len(LINES) + 1, text_of(LINES + [more, "step 2 b 2"]))
        self.check_wrong(1, "\n")
        self.check_wrong(1, "\n" + text_of(LINES))
        self.check_wrong(5, text_of(LINES[:4]) + "\n")

    def test_spaces(self):
        for at, line in enumerate(LINES):
            self.check_wrong_line(at, line + " ")
            self.check_wrong_line(at, " " + line)
            self.check_wrong_line(at, line.replace(" ", "  ", 1))
            self.check_wrong_line(at, line.replace(" ", "\t", 1))
            self.check_wrong_line(at, line.replace(" ", "", 1))
            self.check_wrong_line(at, line + "\r")
            self.check_wrong_line(at, line + " 0 0 0")
            self.check_wrong_line(at, line.upper())
            self.check_wrong_line(at, line.split(" ")[0][:-1] + " " + line.split(" ", 1)[1])
            self.check_wrong_line(at, "")

    def test_letters(self):
        for wrong in ["", "ba", "aa", "abcde", "A", "a b", "1", "ab c", "-", "\u00e4", "aB"]:
            self.check_wrong_line(0, "letters " + wrong)
        self.check_wrong_line(0, "letters")
        self.check_wrong_line(0, "ab")

    def test_states(self):
        for wrong in NO_NUMBERS + ["0", "8", "10", "03", "3 3", "3 ", str(HUGE), "7" * 5000]:
            self.check_wrong_line(1, "states " + wrong)
        self.check_wrong_line(1, "states")
        # A state that the book with fewer states has not.
        self.check_wrong(3, text_of(["letters ab", "states 2"] + LINES[2:]))
        self.check_wrong(8, text_of(["letters ab", "states 2", "starts 0"] + LINES[3:]))
        self.assertEqual(read_book(text_of(["letters ab", "states 7"] + LINES[2:])).size, 7)

    def test_starts_and_ends(self):
        for at, word in [(2, "starts"), (3, "ends")]:
            for wrong in NO_NUMBERS + ["3", "0 3", "-0", "0 0", "1 0", "2 1 0", "0 1 1", "0 2 1", "0, 1", "00 1", "0 01",
                                       str(HUGE), "[0]"]:
                self.check_wrong_line(at, word + " " + wrong)
            for right in ["", " 0", " 1", " 2", " 0 1", " 0 1 2", " 1 2"]:
                self.assertEqual(book_text(read_book(text_of(LINES[:at] + [word + right] + LINES[at + 1:]))),
                                 text_of(LINES[:at] + [word + right] + LINES[at + 1:]))
        self.check_wrong_line(2, "start 0")
        self.check_wrong_line(3, "starts 1")
        self.check_wrong_line(2, "ends 1")

    def test_steps(self):
        for wrong in NO_NUMBERS + ["3", "7", str(HUGE)]:
            self.check_wrong_line(7, "step " + wrong + " a 1")
            self.check_wrong_line(7, "step 2 a " + wrong)
        for wrong in ["", "c", "ab", "A", "0", "-", "aa", "\u00e4"]:
            self.check_wrong_line(7, "step 2 " + wrong + " 1")
        for wrong in ["step", "step 2", "step 2 a", "step 2 a 1 1", "2 a 1", "steps 2 a 1", "step (2, 'a', 1)",
                      "step a 2 1", "step 2 1 a"]:
            self.check_wrong_line(7, wrong)

    def test_steps_that_are_not_ascending(self):
        for wrong in ["step 0 b 1", "step 0 b 0", "step 0 a 2", "step 0 a 1", "step 0 a 0"]:
            self.check_wrong_line(7, wrong)
        for right in ["step 0 b 2", "step 1 a 0", "step 2 b 2"]:
            self.assertEqual(len(read_book(text_of(LINES[:7] + [right]))), 4)
        self.check_wrong(6, text_of(LINES[:4] + ["step 1 a 0", "step 0 b 2"]))

    def test_random_spoils(self):
        source = random.Random(9)
        for _ in range(600):
            text = book_text(random_book(source, source.choice(["a", "ab", "abc"]), source.randint(1, 4)))
            at = source.randrange(len(text))
            spoilt = source.choice([text[:at] + text[at + 1:], text[:at] + source.choice(" \n0123ab") + text[at:],
                                    text[:at] + source.choice(" \n0123ab") + text[at + 1:]])
            try:
                book = read_book(spoilt)
            except InvalidText as raised:
                # All lines ahead of the wrong one can stand as they are.
                lines = spoilt.split("\n")
                self.assertLessEqual(1, raised.line)
                self.assertLessEqual(raised.line, max(len(lines), 5))
                rest = ["letters abcd", "states 7", "starts", "ends"]
                right = lines[:raised.line - 1]
                self.assertEqual(book_text(read_book(text_of(right + rest[len(right):])))[:len(text_of(right))],
                                 text_of(right))
            else:
                self.assertEqual(book_text(book), spoilt)


class RuleTexts(Texts):
    def check_wrong_rule(self, line, text):
        """The text of a list rule is wrong in this line."""
        self.check_raises(InvalidText, {"line": line}, read_rule, text)
        self.check_raises(InvalidText, {"line": line}, read_rule, text=text)

    def test_written_by_hand(self):
        self.assertEqual(rule_text(ListRule([2, 0, 1], 2)), "width 2 order 2 0 1\n")
        self.assertEqual(rule_text(ListRule([0], 0)), "width 0 order 0\n")
        self.assertEqual(rule_text(rule=ListRule([0, 1], HUGE)), "width " + str(HUGE) + " order 0 1\n")
        self.assertEqual(rule_text(ListRule((6, 5, 4, 3, 2, 1, 0), 7)), "width 7 order 6 5 4 3 2 1 0\n")

    def test_read_by_hand(self):
        self.assertEqual(read_rule("width 2 order 2 0 1\n"), ListRule([2, 0, 1], 2))
        self.assertEqual(read_rule("width 0 order 0\n"), ListRule([0], 0))
        self.assertEqual(read_rule(text="width " + str(HUGE) + " order 1 0\n"), ListRule([1, 0], HUGE))
        self.assertIs(read_rule("width 1 order 0\n").__class__, ListRule)

    def test_read_back(self):
        source = random.Random(2)
        for _ in range(60):
            size = source.randint(1, 7)
            rule = ListRule(source.sample(range(size), size), source.choice([0, 1, 2, 7, 10, 11, HUGE]))
            self.assertEqual(read_rule(rule_text(rule)), rule)

    def test_no_list_rules(self):
        for value in NO_RULES + [Plan([0], {}), Plan, FIVE]:
            self.check_raises(InvalidRule, {"value": value}, rule_text, value)
            self.check_raises(InvalidRule, {"value": value}, rule_text, rule=value)

    def test_wrong_lines(self):
        for value in NO_STRINGS:
            self.check_wrong_rule(None, value)
        right = "width 2 order 2 0 1"
        for wrong in NO_NUMBERS:
            self.check_wrong_rule(1, "width " + wrong + " order 2 0 1\n")
            self.check_wrong_rule(1, "width 2 order 1 " + wrong + "\n")
        for wrong in ["", " ", "x", "width", "width 2", "width 2 order", "width 2 order ", "order 0 1 width 2",
                      "2 order 0 1", "width 2 orders 0 1", "Width 2 order 0 1", "width 2 order 1", "width 2 order 1 2",
                      "width 2 order 0 0", "width 2 order 0 1 3", "width 2 order 0 1 2 3 4 5 6 7", "width 2 order 0 7",
                      "width 02 order 0 1", "width 2 order 00 1", "width 2 3 order 0 1", "width order 0 1",
                      "width 2 order 0 1 0", "width 2 order 0 " + str(HUGE), "width 2 order 0, 1",
                      right + " ", " " + right, right + "\t", right + "\r", right.replace(" ", "  ", 1),
                      right.replace(" 0", "  0"), right.upper(), "width 2  2 0 1"]:
            self.check_wrong_rule(1, wrong + "\n")
            self.check_wrong_rule(1, wrong + "\n" + right + "\n")
            self.check_wrong_rule(1, wrong)
        self.check_wrong_rule(1, "")
        self.check_wrong_rule(1, right)
        self.check_wrong_rule(1, "\n" + right + "\n")
        for more in ["\n", " ", "x", "x\n", right, right + "\n", "\n\n"]:
            self.check_wrong_rule(2, right + "\n" + more)


if __name__ == "__main__":
    unittest.main()
