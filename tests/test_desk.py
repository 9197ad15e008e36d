"""The desk: its commands, what they are answered, what they change, and what is taken back."""

import itertools
import random
import unittest

from fewheld.books import Book
from fewheld.desk import Desk
from fewheld.errors import (BookError, CommandFailed, InvalidBook, InvalidCommand, InvalidLetter, InvalidName,
                            InvalidOrder, InvalidRow, InvalidSet, LimitError, MissingError, NameTaken, NothingToUndo,
                            OtherLetters, StateError, TooMany, UnknownName)
from fewheld.mending import opened
from tests.helpers import NO_BOOKS, NO_STRINGS, SOME_BOOK, Checks, full_book, random_book, ring
from tests.slow import FIVE, HARD, NONE, SHOWN, THIRD, WIDE

HUGE = 10 ** 25
BOOK = Book("ab", 3, [0], [2], [(0, "a", 0), (0, "a", 1), (1, "b", 2)])
RISE = Book("a", 2, [0], [1], [(0, "a", 0), (0, "a", 1), (1, "a", 1)])
TWO = Book("a", 2, [0], [0, 1], [(0, "a", 0), (0, "a", 1), (1, "a", 0), (1, "a", 1)])
# A command of each form that can be done at the desk below.
COMMANDS = [
    "make n ab 3", "copy n s", "side n s t", "both n s t", "turn n s", "opened n s", "start s 1", "end s 2",
    "step s 0 b 1", "drop s", "undo", "reads s aab", "comes s a", "readings s aab", "width s", "enough s 1",
    "ahead s 1", "loses s 1 1 0 2", "follow s t", "growth s",
]
CHANGES = COMMANDS[:10]
QUESTIONS = COMMANDS[11:]
NO_NAMES = ["", "S", "s1", "s-", "nineteens", "abcdefghi", "\u00e4", "-", "0", "a_b", "sT"]
NO_NUMBERS = ["", "-1", "+1", "01", "00", "1.0", "a", "x", "-", "1_0", "\u0661", "one", "0x1", "True", "1,", "--"]
NO_ROWS = ["", "--", "A", "a-", "-a", "a1", "0", "\u00e4", "a,b", "aB"]
NO_LETTERS = ["", "ba", "aa", "abcde", "A", "-", "1", "\u00e4", "aB", "a,b"]
NO_SINGLE_LETTERS = ["", "ab", "A", "-", "1", "\u00e4", "aa", "0"]
NO_SIZES = NO_NUMBERS + ["0", "8", "10", "03", "77", str(HUGE)]
# For each command the kinds of its words.
FORMS = {
    "make": [NO_NAMES, NO_LETTERS, NO_SIZES], "copy": [NO_NAMES] * 2, "side": [NO_NAMES] * 3, "both": [NO_NAMES] * 3,
    "turn": [NO_NAMES] * 2, "opened": [NO_NAMES] * 2, "start": [NO_NAMES, NO_NUMBERS], "end": [NO_NAMES, NO_NUMBERS],
    "step": [NO_NAMES, NO_NUMBERS, NO_SINGLE_LETTERS, NO_NUMBERS], "drop": [NO_NAMES], "undo": [],
    "reads": [NO_NAMES, NO_ROWS], "comes": [NO_NAMES, NO_ROWS], "readings": [NO_NAMES, NO_ROWS], "width": [NO_NAMES],
    "enough": [NO_NAMES, NO_NUMBERS], "ahead": [NO_NAMES, NO_NUMBERS],
    "loses": [NO_NAMES, NO_NUMBERS, NO_NUMBERS, NO_NUMBERS, NO_NUMBERS], "follow": [NO_NAMES] * 2,
    "growth": [NO_NAMES],
}


def desk_with(**books):
    """A desk with these books."""
    desk = Desk()
    for name in books:
        desk[name] = books[name]
    return desk


def usual_desk():
    """A desk with two books."""
    return desk_with(s=BOOK, t=Book("ab", 2, [0], [0, 1], [(0, "a", 0), (0, "b", 1), (1, "b", 1)]))


def state_of(desk):
    """All that can be seen of the desk."""
    return [desk.log(), [(name, desk[name]) for name in desk.names()], len(desk)]


def past_of(desk):
    """The books as they are when one command behind another is taken back; the desk is emptied by that."""
    found = [{name: desk[name] for name in desk.names()}]
    while desk.log():
        desk.do("undo")
        found.append({name: desk[name] for name in desk.names()})
    return found


def toggled(states, state):
    """The states with this one, or without it, if it was there."""
    return sorted({*states} ^ {state})


def changed_by_hand(books, command):
    """The books behind the command, told anew."""
    word, name, *rest = command.split(" ")
    behind = dict(books)
    if word == "make":
        behind[name] = Book(rest[0], int(rest[1]))
    elif word == "copy":
        behind[name] = books[rest[0]]
    elif word == "side":
        behind[name] = books[rest[0]] | books[rest[1]]
    elif word == "both":
        behind[name] = books[rest[0]] & books[rest[1]]
    elif word == "turn":
        behind[name] = ~books[rest[0]]
    elif word == "opened":
        behind[name] = opened(books[rest[0]])
    elif word == "drop":
        del behind[name]
    else:
        book = books[name]
        starts, ends, steps = list(book.starts), list(book.ends), book.steps()
        if word == "start":
            starts = toggled(starts, int(rest[0]))
        elif word == "end":
            ends = toggled(ends, int(rest[0]))
        else:
            steps = toggled(steps, (int(rest[0]), rest[1], int(rest[2])))
        behind[name] = Book(book.letters, book.size, starts, ends, steps)
    return behind


def random_change(source, books):
    """A command that changes these books and raises no error."""
    fresh = next(name for name in ["a", "book", "z", "abcdefgh", "more", "last", "x"] if name not in books)
    letters = source.choice(["a", "ab"])
    if not books or source.random() < 0.1 and len(books) < 5:
        return f"make {fresh} {letters} {source.randint(1, 3)}"
    name = source.choice(sorted(books))
    book = books[name]
    other = source.choice([name for name in sorted(books) if books[name].letters == book.letters])
    p, q = source.randrange(book.size), source.randrange(book.size)
    letter = source.choice(book.letters)
    choices = [f"start {name} {p}", f"end {name} {p}"] + [f"step {name} {p} {letter} {q}"] * 4
    if len(books) < 6:
        choices += [f"copy {fresh} {name}", f"turn {fresh} {name}", f"opened {fresh} {name}"]
        if book.size + books[other].size < 8:
            choices += [f"side {fresh} {name} {other}"]
        if book.size * books[other].size < 8:
            choices += [f"both {fresh} {name} {other}"]
    else:
        choices += [f"drop {name}"] * 4
    return source.choice(choices)


class Makers(Checks):
    def check_made(self, command, name, book):
        """The command is answered, changes just this book, is logged, and is taken back."""
        desk = usual_desk()
        before = {other: desk[other] for other in desk.names()}
        self.assertEqual(desk.do(command), "done")
        self.assertEqual({other: desk[other] for other in desk.names()}, {**before, name: book})
        self.assertEqual(desk.log(), ["set s", "set t", command])
        self.assertEqual(desk.do("undo"), "done")
        self.assertEqual({other: desk[other] for other in desk.names()}, before)
        self.assertEqual(desk.log(), ["set s", "set t"])

    def test_each(self):
        desk = usual_desk()
        s, t = desk["s"], desk["t"]
        self.check_made("make n ab 3", "n", Book("ab", 3))
        self.check_made("make abcdefgh bdmz 7", "abcdefgh", Book("bdmz", 7))
        self.check_made("make n a 1", "n", Book("a", 1))
        self.check_made("copy n s", "n", s)
        self.check_made("side n s t", "n", s | t)
        self.check_made("side n t s", "n", t | s)
        self.check_made("side n s s", "n", s | s)
        self.check_made("both n s t", "n", s & t)
        self.check_made("both n t s", "n", t & s)
        self.check_made("turn n s", "n", ~s)
        self.check_made("opened n s", "n", opened(s))
        self.check_made("start s 1", "s", s.with_starts([0, 1]))
        self.check_made("start s 0", "s", s.with_starts([]))
        self.check_made("end s 1", "s", s.with_ends([1, 2]))
        self.check_made("end s 2", "s", s.with_ends([]))
        self.check_made("step s 0 b 1", "s", s + (0, "b", 1))
        self.check_made("step s 0 a 1", "s", s - (0, "a", 1))
        self.check_made("step s 2 b 2", "s", s + (2, "b", 2))

    def test_drop(self):
        desk = usual_desk()
        self.assertEqual(desk.do("drop s"), "done")
        self.assertEqual((desk.names(), len(desk), "s" in desk), (["t"], 1, False))
        self.assertEqual(desk.log(), ["set s", "set t", "drop s"])
        self.check_raises(UnknownName, {"name": "s"}, desk.do, "drop s")
        self.assertEqual(desk.do("make s a 1"), "done")
        desk.do("undo")
        desk.do("undo")
        self.assertEqual((desk.names(), desk["s"]), (["s", "t"], BOOK))

    def test_names_like_commands(self):
        desk = Desk()
        for name in ["make", "undo", "drop", "letters", "growth", "set"]:
            desk.do(f"make {name} ab 2")
        self.assertEqual(desk.do("step undo 0 a 1"), "done")
        self.assertEqual(desk.do("copy x undo"), "done")
        self.assertEqual(desk["x"], Book("ab", 2, [], [], [(0, "a", 1)]))

    def test_beside_books_that_are_kept_by_hand(self):
        source = random.Random(3)
        for _ in range(12):
            desk = Desk()
            books, done = {}, []
            for _ in range(120):
                if done and source.random() < 0.25:
                    books, _ = done.pop()
                    self.assertEqual(desk.do(command="undo"), "done")
                else:
                    command = random_change(source, books)
                    done.append((books, command))
                    books = changed_by_hand(books, command)
                    self.assertEqual(desk.do(command), "done")
                self.assertEqual({name: desk[name] for name in desk.names()}, books)
                self.assertEqual(desk.names(), sorted(books))
                self.assertEqual(desk.log(), [command for _, command in done])
            self.assertEqual(past_of(desk), [books] + [before for before, _ in reversed(done)])


class Questions(Checks):
    def check_answers(self, book, *told):
        """The questions about the book, called s, are answered so; the desk does not change."""
        desk = desk_with(s=book, t=BOOK, n=NONE, five=FIVE)
        before = state_of(desk)
        for question, answer in told:
            self.assertEqual(desk.do(question), answer, question)
        self.assertEqual(state_of(desk), before)

    def test_rows(self):
        self.check_answers(FIVE, ("reads s ab", "yes"), ("reads s a", "no"), ("reads s -", "no"), ("reads s aba", "no"),
                           ("comes s -", "0 1"), ("comes s a", "2 3 4"), ("comes s ab", "5"), ("comes s aaa", "-"),
                           ("readings s ab", "2"), ("readings s a", "0"), ("readings s -", "0"))
        self.check_answers(full_book("abcd", 7), ("reads s -", "yes"), ("comes s dcba", "0 1 2 3 4 5 6"),
                           ("readings s -", "7"), ("readings s aabb", str(7 ** 5)),
                           ("readings s " + "a" * 200, str(7 ** 201)))
        self.check_answers(Book("a", 1), ("reads s -", "no"), ("comes s -", "-"), ("readings s a", "0"))

    def test_widths(self):
        self.check_answers(FIVE, ("width s", "2 1"), ("enough s 1", "no in 1"), ("enough s 2", "yes"),
                           ("enough s 0", "no in 0"), (f"enough s {HUGE}", "yes"), ("ahead s 0", "2"),
                           ("ahead s 1", "1"), ("ahead s 3", "1"))
        self.check_answers(SHOWN, ("width s", "2 2"), ("enough s 1", "no in 1"))
        self.check_answers(Book("a", 1), ("width s", "0 0"), ("enough s 0", "yes"), ("ahead s 2", "0"))
        self.check_answers(HARD[9], ("enough s 3", "no in 9"), ("enough s 4", "yes"), ("width s", "4 4"))
        line = Book("a", 4, [0, 1, 2, 3], [3], [(0, "a", 1), (1, "a", 2), (2, "a", 3)])
        self.check_answers(line, ("ahead s 0", "4"), ("ahead s 1", "3"), ("ahead s 2", "2"), ("ahead s 3", "1"))

    def test_lost_rows(self):
        self.check_answers(WIDE, ("loses s 2 0 1 3 4 2 5", "ab"), ("loses s 1 0 1 3 4 2 5", "nothing"),
                           ("loses s 0 0 1 2 3 4 5", "aa"), (f"loses s {HUGE} 5 4 3 2 1 0", "nothing"))
        self.check_answers(Book("a", 1, [0], [0]), ("loses s 0 0", "-"), ("loses s 1 0", "nothing"))

    def test_followers(self):
        self.check_answers(SHOWN, ("follow s s", "1 2"), ("follow s t", "never"), ("follow t s", "never"))
        self.check_answers(FIVE, ("follow s five", "1 2"), ("follow s n", "2 2"), ("follow n s", "never"))
        self.check_answers(BOOK.with_ends([]), ("follow s t", "0 0"), ("follow t s", "never"))
        blind = Book("ab", 3, [0], [2], [(0, "a", 1), (1, "a", 2), (1, "b", 2)])
        desk = desk_with(s=blind, t=SHOWN)
        self.assertEqual([desk.do("follow s t"), desk.do("follow t s")], ["2 2", "1 1"])

    def test_growth(self):
        self.check_answers(THIRD, ("growth s", "at most 1"))
        self.check_answers(FIVE, ("growth s", "at most 2"))
        self.check_answers(Book("a", 1), ("growth s", "at most 0"))
        self.check_answers(RISE, ("growth s", "degree 1"))
        self.check_answers(TWO, ("growth s", "doubling"))
        stairs = Book("a", 7, [0], [6], [(p, "a", p) for p in range(7)] + [(p, "a", p + 1) for p in range(6)])
        self.check_answers(stairs, ("growth s", "degree 6"))

    def test_of_the_usual_desk(self):
        answers = ["yes", "0 1", "1", "2 2", "no in 1", "1", "aab", "1 1", "at most 1"]
        desk = usual_desk()
        self.assertEqual([desk.do(question) for question in QUESTIONS], answers)
        self.assertEqual(desk.do_all(*QUESTIONS), answers)
        self.assertEqual(desk.attempt(*QUESTIONS), answers)


class Forms(Checks):
    def check_no_command(self, value):
        """The value is no command, whatever the desk has."""
        for desk in [Desk(), usual_desk()]:
            before = state_of(desk)
            self.check_raises(InvalidCommand, {"value": value}, desk.do, value)
            self.check_raises(InvalidCommand, {"value": value}, desk.do, command=value)
            self.assertEqual(state_of(desk), before)

    def test_all_are_told(self):
        self.assertEqual([command.split(" ")[0] for command in COMMANDS], list(FORMS))
        for command in COMMANDS:
            usual_desk().do(command)

    def test_other_values(self):
        for value in NO_STRINGS + ["", " ", "\n", "x", "set s", "set", "Width s", "WIDTH s", "s width", "width,s",
                                   "\u00e4", "undo undo", "undo 1", "list", "help", "log", "names"]:
            self.check_no_command(value)
        for command in COMMANDS:
            self.check_no_command([command])
            self.check_no_command((command,))
            self.check_no_command(command.encode())

    def test_spaces(self):
        for command in COMMANDS:
            for wrong in [command + " ", " " + command, command.replace(" ", "  ", 1), command.replace(" ", "\t", 1),
                          command.replace(" ", "", 1), command + "\n", "\n" + command, command + "\r",
                          command.upper(), command.capitalize()]:
                if wrong != command:
                    self.check_no_command(wrong)

    def test_words_lacking_or_too_many(self):
        for command in COMMANDS:
            words = command.split(" ")
            for many in range(len(words)):
                # An order may be shorter; then it is none of the book.
                if words[0] != "loses" or many < 4:
                    self.check_no_command(" ".join(words[:many]))
            if words[0] != "loses":
                for more in ["0", "s", "a", "-", "x1"]:
                    self.check_no_command(command + " " + more)
            self.check_no_command("x" + command)
            self.check_no_command(command[1:])

    def test_each_word_otherwise(self):
        for command in COMMANDS:
            words = command.split(" ")
            self.assertEqual(len(words) - 1, len(FORMS[words[0]]))
            for at, wrongs in enumerate(FORMS[words[0]]):
                for wrong in wrongs:
                    self.check_no_command(" ".join(words[:at + 1] + [wrong] + words[at + 2:]))

    def test_longest_words(self):
        desk = desk_with(abcdefgh=BOOK)
        self.assertEqual(desk.do("reads abcdefgh " + "a" * 198 + "ab"), "yes")
        self.assertEqual(desk.do("enough abcdefgh " + "9" * 5000), "yes")
        self.assertEqual(desk.do("reads abcdefgh a"), "no")
        self.check_no_command("reads abcdefghi a")
        self.check_no_command("x" * 20000)
        self.check_no_command("enough s 0" + "9" * 5000)


class Errors(Checks):
    def check_refused(self, command, error, **told):
        """The command is refused with this error; nothing changes."""
        desk = desk_with(s=BOOK, t=RISE, other=BOOK, seven=ring("ab", 7, [0]), wide=full_book("ab", 3))
        before = state_of(desk)
        self.check_raises(error, told, desk.do, command)
        self.assertEqual(state_of(desk), before)
        with self.assertRaises(CommandFailed) as caught:
            desk.do_all("start s 1", command)
        self.check_error(caught.exception, CommandFailed, {"position": 1})
        self.check_error(caught.exception.__cause__, error, told)
        self.assertEqual(state_of(desk), before)

    def test_names_that_are_taken(self):
        for command in ["make s a 1", "copy s other", "side s other other", "both s other other", "turn s other",
                        "opened s other", "copy s s", "copy s none", "side s none never", "both s none s",
                        "turn s none", "opened s none"]:
            self.check_refused(command, NameTaken, name="s")

    def test_names_that_are_unknown(self):
        for command in ["copy n no", "turn n no", "opened n no", "copy no no", "side n no s", "side n s no",
                        "side n no never", "both n no s", "both n s no", "both n no never", "start no 0", "end no 9",
                        "step no 9 z 9", "drop no", "reads no z", "comes no -", "readings no z", "width no",
                        "enough no 1", "ahead no 9", "loses no 1 5", "follow no s", "follow s no", "follow no never",
                        "growth no"]:
            self.check_refused(command, UnknownName, name="no")

    def test_states(self):
        for state in [3, 7, 10, HUGE]:
            self.check_refused(f"start s {state}", InvalidSet, value=(state,))
            self.check_refused(f"end s {state}", InvalidSet, value=(state,))
            self.check_refused(f"step s {state} a 0", InvalidSet, value=(state,))
            self.check_refused(f"step s 0 a {state}", InvalidSet, value=(state,))
            self.check_refused(f"step s {state} z 9", InvalidSet, value=(state,))
            self.check_refused(f"step s 2 z {state}", InvalidLetter, value="z")
        self.check_refused("step s 2 c 2", InvalidLetter, value="c")
        self.check_refused("step t 0 b 0", InvalidLetter, value="b")

    def test_rows(self):
        for word in ["reads", "comes", "readings"]:
            self.check_refused(f"{word} s abc", InvalidRow, value="abc")
            self.check_refused(f"{word} t b", InvalidRow, value="b")
            self.check_refused(f"{word} s " + "a" * 199 + "z", InvalidRow, value="a" * 199 + "z")

    def test_orders(self):
        for order in [(0,), (0, 1), (0, 1, 1), (0, 1, 3), (1, 2, 3), (0, 1, 2, 3), (0, 0, 0), (HUGE,),
                      (0, 1, 2, 3, 4, 5, 6, 7), (2, 1, 0, 0)]:
            self.check_refused("loses s 1 " + " ".join(str(state) for state in order), InvalidOrder, value=order)
            self.check_refused(f"loses s {HUGE} " + " ".join(str(state) for state in order), InvalidOrder, value=order)

    def test_letters_and_limits(self):
        for word in ["side", "both"]:
            self.check_refused(f"{word} n s t", OtherLetters, one="ab", other="a")
            self.check_refused(f"{word} n t s", OtherLetters, one="a", other="ab")
            self.check_refused(f"{word} n t seven", OtherLetters, one="a", other="ab")
            self.check_refused(f"{word} n seven wide", TooMany, what="states", limit=7)
        self.check_refused("side n seven s", TooMany, what="states", limit=7)
        self.check_refused("follow s t", OtherLetters, one="ab", other="a")
        self.check_refused("follow t s", OtherLetters, one="a", other="ab")
        for many in [4, 5, HUGE]:
            self.check_refused(f"ahead s {many}", TooMany, what="letters ahead", limit=3)

    def test_in_sequence(self):
        # The form, then the names, then what is done.
        self.check_refused("copy s No", InvalidCommand, value="copy s No")
        self.check_refused("make s ba 1", InvalidCommand, value="make s ba 1")
        self.check_refused("start no 01", InvalidCommand, value="start no 01")
        self.check_refused("side s no seven", NameTaken, name="s")
        self.check_refused("both n t no", UnknownName, name="no")
        self.check_refused("step no 9 zz 9", InvalidCommand, value="step no 9 zz 9")

    def test_nothing_to_undo(self):
        desk = Desk()
        self.check_raises(NothingToUndo, {}, desk.do, "undo")
        desk.do("make s a 1")
        desk.do("width s")
        desk.do("undo")
        self.check_raises(NothingToUndo, {}, desk.do, "undo")
        self.check_raises(CommandFailed, {"position": 0}, desk.do_all, "undo")
        self.check_raises(CommandFailed, {"position": 2}, desk.do_all, "make s a 1", "undo", "undo")
        self.assertEqual((len(desk), desk.log()), (0, []))


class Undo(Checks):
    def test_one_behind_another(self):
        desk = Desk()
        commands = ["make s ab 2", "start s 0", "end s 1", "step s 0 a 1", "step s 0 a 1", "copy t s", "side u s t",
                    "both v s u", "turn w u", "opened x w", "drop s", "make s a 1", "drop w"]
        seen = [{}]
        for command in commands:
            self.assertEqual(desk.do(command), "done")
            seen.append({name: desk[name] for name in desk.names()})
        desk["s"] = FIVE
        desk["y"] = NONE
        self.assertEqual(desk.log(), commands + ["set s", "set y"])
        desk.do("undo")
        self.assertNotIn("y", desk)
        self.assertEqual(desk["s"], FIVE)
        desk.do("undo")
        for many in range(len(commands), 0, -1):
            self.assertEqual({name: desk[name] for name in desk.names()}, seen[many])
            self.assertEqual(desk.log(), commands[:many])
            self.assertEqual(desk.do("undo"), "done")
        self.assertEqual((desk.names(), desk.log()), ([], []))
        self.check_raises(NothingToUndo, {}, desk.do, "undo")

    def test_what_is_taken_back_stays_so(self):
        desk = usual_desk()
        desk.do_all("start s 1", "undo", "end s 1", "start s 2")
        self.assertEqual(desk.log(), ["set s", "set t", "end s 1", "start s 2"])
        desk.do("undo")
        desk.do("undo")
        self.assertEqual((desk["s"], desk.log()), (BOOK, ["set s", "set t"]))

    def test_questions_and_refused_commands_are_not_taken_back(self):
        desk = usual_desk()
        desk.do("start s 1")
        for question in QUESTIONS:
            desk.do(question)
        for wrong in ["start s 3", "drop no", "no command", "make s a 1"]:
            with self.assertRaises((BookError, MissingError, StateError)):
                desk.do(wrong)
        self.assertEqual(desk.log(), ["set s", "set t", "start s 1"])
        desk.do("undo")
        self.assertEqual(desk["s"], BOOK)


class Several(Checks):
    def test_answers(self):
        desk = Desk()
        self.assertEqual(desk.do_all(), [])
        self.assertEqual(desk.attempt(), [])
        commands = ["make s ab 4", "start s 0", "end s 3", "step s 0 a 1", "step s 0 a 2", "step s 1 a 3",
                    "step s 2 b 3"]
        self.assertEqual(desk.do_all(*commands), ["done"] * 7)
        self.assertEqual(desk["s"], SHOWN)
        self.assertEqual(desk.log(), commands)
        self.assertEqual(desk.do_all("width s", "undo", "reads s ab", "undo", "reads s aa"),
                         ["2 2", "done", "no", "done", "no"])
        self.assertEqual(desk.log(), commands[:5])

    def test_taken_back_one_by_one(self):
        desk = Desk()
        desk.do_all("make s a 1", "start s 0", "end s 0")
        desk.do("undo")
        self.assertEqual(desk["s"], Book("a", 1, [0]))
        self.assertEqual(desk.do_all("undo", "undo"), ["done", "done"])
        self.assertEqual(desk.names(), [])

    def test_refused(self):
        wrong = [("start s 3", InvalidSet), ("drop no", UnknownName), ("copy s t", NameTaken), ("side n s r", OtherLetters),
                 ("ahead s 4", TooMany), ("no command", InvalidCommand), (None, InvalidCommand), ([], InvalidCommand),
                 (3, InvalidCommand), ("loses s 1 0", InvalidOrder), ("reads s c", InvalidRow)]
        for (command, error), many in itertools.product(wrong, range(4)):
            desk = desk_with(s=BOOK, t=BOOK, r=RISE)
            desk.do("start s 2")
            before = state_of(desk)
            commands = ["start s 1", "undo", "drop t", "width s"][:many] + [command] + ["drop s"]
            for call in [desk.do_all, desk.attempt]:
                with self.assertRaises(CommandFailed) as caught:
                    call(*commands)
                self.check_error(caught.exception, CommandFailed, {"position": many})
                self.assertIs(caught.exception.__cause__.__class__, error)
                self.assertEqual(state_of(desk), before)
            self.assertEqual(past_of(desk), [
                {"s": BOOK.with_starts([0, 2]), "t": BOOK, "r": RISE}, {"s": BOOK, "t": BOOK, "r": RISE},
                {"s": BOOK, "t": BOOK}, {"s": BOOK}, {}])

    def test_the_last_undo_is_refused(self):
        desk = desk_with(s=BOOK)
        for call in [desk.do_all, desk.attempt]:
            with self.assertRaises(CommandFailed) as caught:
                call("undo", "undo")
            self.check_error(caught.exception, CommandFailed, {"position": 1})
            self.check_error(caught.exception.__cause__, NothingToUndo, {})
            self.assertEqual((desk.log(), desk["s"]), (["set s"], BOOK))

    def test_attempts_have_no_effect(self):
        desk = usual_desk()
        desk.do("start s 1")
        before = state_of(desk)
        self.assertEqual(desk.attempt("undo", "undo", "undo", "make s a 1", "start s 0", "comes s -"),
                         ["done"] * 5 + ["0"])
        self.assertEqual(state_of(desk), before)
        for command in CHANGES:
            self.assertEqual(desk.attempt(command), ["done"])
            self.assertEqual(state_of(desk), before)
        self.assertEqual(desk.attempt("drop s", "drop t"), ["done", "done"])
        self.assertEqual([len(books) for books in past_of(desk)], [2, 2, 1, 0])

    def test_many_commands(self):
        desk = Desk()
        self.assertEqual(len(desk.do_all("make s a 2", *["step s 0 a 1"] * 201)), 202)
        self.assertEqual(desk["s"], Book("a", 2, [], [], [(0, "a", 1)]))
        self.assertEqual(len(desk.log()), 202)

    def test_beside_commands_one_by_one(self):
        source = random.Random(13)
        for _ in range(30):
            one, other = Desk(), Desk()
            books, commands = {}, []
            for _ in range(25):
                commands.append(random_change(source, books))
                books = changed_by_hand(books, commands[-1])
            self.assertEqual(one.attempt(*commands), ["done"] * 25)
            self.assertEqual(state_of(one), state_of(Desk()))
            answers = one.do_all(*commands)
            self.assertEqual(answers, [other.do(command) for command in commands])
            self.assertEqual(state_of(one), state_of(other))
            self.assertEqual(past_of(one), past_of(other))


class Books(Checks):
    def test_set(self):
        desk = Desk()
        desk["s"] = FIVE
        self.assertEqual((desk["s"], desk.log(), desk.names(), len(desk)), (FIVE, ["set s"], ["s"], 1))
        desk["s"] = NONE
        desk["abcdefgh"] = FIVE
        desk["s"] = NONE
        self.assertEqual((desk["s"], desk.log()), (NONE, ["set s", "set s", "set abcdefgh", "set s"]))
        self.assertEqual(past_of(desk), [{"s": NONE, "abcdefgh": FIVE}, {"s": NONE, "abcdefgh": FIVE}, {"s": NONE},
                                         {"s": FIVE}, {}])

    def test_set_beside_commands(self):
        desk = Desk()
        desk.do("make s a 1")
        desk["s"] = FIVE
        self.assertEqual(desk.do("width s"), "2 1")
        desk.do("start s 5")
        self.assertEqual(desk.log(), ["make s a 1", "set s", "start s 5"])
        self.assertEqual(past_of(desk), [{"s": FIVE.with_starts([0, 1, 5])}, {"s": FIVE}, {"s": Book("a", 1)}, {}])

    def test_wrong_names_and_books(self):
        for name in NO_STRINGS + NO_NAMES + ["A", "a b", " a", "a\n", "a1", "abcdefghi", "\ud800"]:
            desk = usual_desk()
            before = state_of(desk)
            for book in [BOOK, None]:
                with self.assertRaises(InvalidName) as caught:
                    desk[name] = book
                self.check_error(caught.exception, InvalidName, {"value": name})
            self.assertEqual(state_of(desk), before)
        for book in NO_BOOKS:
            desk = usual_desk()
            before = state_of(desk)
            for name in ["s", "new"]:
                with self.assertRaises(InvalidBook) as caught:
                    desk[name] = book
                self.check_error(caught.exception, InvalidBook, {"value": book})
            self.assertEqual(state_of(desk), before)

    def test_asked_for(self):
        desk = usual_desk()
        self.assertIs(desk["s"].__class__, Book)
        for name in NO_STRINGS + NO_NAMES + ["u", "S", "st", "s "]:
            with self.assertRaises(UnknownName) as caught:
                desk[name]
            self.check_error(caught.exception, UnknownName, {"name": name})
            self.assertIs(name in desk, False)
        self.assertIs("s" in desk, True)
        self.assertIs("s" in Desk(), False)

    def test_names(self):
        desk = Desk()
        self.assertEqual((desk.names(), len(desk), desk.log()), ([], 0, []))
        for name in ["b", "ab", "a", "aa", "ba"]:
            desk[name] = SOME_BOOK
        self.assertEqual((desk.names(), len(desk)), (["a", "aa", "ab", "b", "ba"], 5))
        with self.assertRaises(TypeError):
            list(desk)

    def test_what_is_returned_is_new(self):
        desk = usual_desk()
        for call in [desk.names, desk.log, lambda: desk.do_all("width s"), lambda: desk.attempt("width s")]:
            before = call()
            call().clear()
            self.assertEqual(call(), before)

    def test_desks_are_apart(self):
        one, other = usual_desk(), usual_desk()
        one.do("drop s")
        one["x"] = FIVE
        self.assertEqual((other.names(), other.log()), (["s", "t"], ["set s", "set t"]))
        self.assertEqual(other.do("undo"), "done")
        self.assertEqual((one.names(), one.log()), (["t", "x"], ["set s", "set t", "drop s", "set x"]))

    def test_books_that_were_taken_stay_as_they_are(self):
        desk = usual_desk()
        book = desk["s"]
        desk.do_all("start s 1", "end s 0", "step s 0 a 1", "drop s")
        self.assertEqual(book, BOOK)

    def test_errors_of_the_package_alone(self):
        # All errors that a command can raise are caught by one of the four bases.
        for error in [InvalidCommand, InvalidSet, UnknownName, NameTaken, NothingToUndo, OtherLetters, TooMany]:
            self.assertTrue(issubclass(error, (BookError, MissingError, StateError, LimitError)))

    def test_drawn_books(self):
        source = random.Random(21)
        for _ in range(30):
            book = random_book(source, source.choice(["a", "ab", "abc"]), source.randint(1, 5))
            desk = Desk()
            desk.do(f"make s {book.letters} {book.size}")
            desk.do_all(*[f"start s {p}" for p in book.starts], *[f"end s {p}" for p in book.ends],
                        *[f"step s {p} {a} {q}" for p, a, q in book.steps()])
            self.assertEqual(desk["s"], book)
            self.assertEqual(desk.do("comes s -"), " ".join(str(p) for p in book.starts) or "-")


if __name__ == "__main__":
    unittest.main()
