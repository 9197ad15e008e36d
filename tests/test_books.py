"""Books: how they are made, what they tell, and what is refused."""

import itertools
import unittest

from fewheld.books import Book
from fewheld.errors import (InvalidLetters, InvalidRooms, InvalidSet, InvalidSize, InvalidStates, InvalidStep,
                            InvalidSteps)
from tests.helpers import (NO_INTEGERS, NO_LETTERS, NO_LISTS, NO_SETS, NO_STATES, NO_STEPS, SOME_BOOK, Alike, Checks,
                           Number, Own, full_book, sample_books)


class Made(Checks):
    def test_parts(self):
        book = Book("ab", 3, [2, 0], (1,), [(2, "b", 0), (0, "a", 2), (0, "a", 1)])
        self.assertEqual((book.letters, book.size, book.starts, book.ends), ("ab", 3, (0, 2), (1,)))
        self.assertEqual(book.steps(), [(0, "a", 1), (0, "a", 2), (2, "b", 0)])
        self.assertEqual(len(book), 3)

    def test_parts_that_are_left_out(self):
        book = Book("c", 1)
        self.assertEqual((book.letters, book.size, book.starts, book.ends, book.steps()), ("c", 1, (), (), []))
        self.assertEqual(len(book), 0)

    def test_names_and_lists_and_tuples(self):
        due = Book("ab", 2, [0], [1], [(0, "a", 1)])
        self.assertEqual(Book(steps=((0, "a", 1),), ends=(1,), starts=(0,), size=2, letters="ab"), due)
        self.assertEqual(Book("ab", 2, (0,), ends=[1], steps=[(0, "a", 1)]), due)

    def test_all_sizes(self):
        self.assertEqual(Book.MOST_STATES, 7)
        self.assertEqual(SOME_BOOK.MOST_STATES, 7)
        for size in range(1, 8):
            book = full_book("abcd", size)
            self.assertEqual((book.size, book.starts, book.ends), (size, tuple(range(size)), tuple(range(size))))
            self.assertEqual(len(book), 4 * size * size)
            self.assertEqual(book.steps(), sorted(itertools.product(range(size), "abcd", range(size))))

    def test_steps_go_in_any_sequence(self):
        steps = list(itertools.product(range(2), "ab", range(2)))
        for some in itertools.permutations(steps, 3):
            self.assertEqual(Book("ab", 2, [], [], some).steps(), sorted(some))

    def test_kinds(self):
        book = Book("ab", Number.TWO, [Number.ONE], [Number.ZERO], [(Number.ONE, "a", Number.ZERO)])
        self.assertEqual(repr(book), "Book('ab', 2, (1,), (0,), [(1, 'a', 0)])")
        for book in sample_books():
            self.assertIs(book.letters.__class__, str)
            self.assertIs(book.size.__class__, int)
            self.assertIs(book.starts.__class__, tuple)
            self.assertIs(book.ends.__class__, tuple)
            self.assertIs(book.steps().__class__, list)
            self.assertTrue(all(step.__class__ is tuple for step in book.steps()))

    def test_repr(self):
        self.assertEqual(repr(SOME_BOOK), "Book('ab', 2, (0,), (1,), [(0, 'a', 1)])")
        self.assertEqual(repr(Book("z", 7)), "Book('z', 7, (), (), [])")
        self.assertEqual(repr(Book("az", 2, [1, 0], [1, 0], [(1, "z", 0), (0, "a", 0)])),
                         "Book('az', 2, (0, 1), (0, 1), [(0, 'a', 0), (1, 'z', 0)])")
        for book in sample_books():
            self.assertEqual(eval(repr(book)), book)

    def test_equal(self):
        parts = ["ab", 2, [0], [1], [(0, "a", 1)]]
        book = Book(*parts)
        self.assertTrue(book == Book("ab", 2, (0,), (1,), ((0, "a", 1),)))
        self.assertFalse(book != Book(*parts))
        for at, other in enumerate(["abc", 3, [0, 1], [], [(0, "a", 0)]]):
            unlike = Book(*parts[:at], other, *parts[at + 1:])
            self.assertFalse(book == unlike)
            self.assertTrue(book != unlike)
        self.assertTrue(Book("a", 2, [0, 1], [1, 0]) == Book("a", 2, [1, 0], [0, 1]))

    def test_not_equal_to_other_kinds(self):
        for value in [None, 0, True, "ab", repr(SOME_BOOK), (), [], [(0, "a", 1)], {}, Own(), Alike(), Book]:
            self.assertFalse(SOME_BOOK == value)
            self.assertTrue(SOME_BOOK != value)


class Unchanged(Checks):
    def test_what_was_passed(self):
        starts, ends, steps = [1, 0], [1], [(1, "b", 0), (0, "a", 1)]
        book = Book("ab", 2, starts, ends, steps)
        self.assertEqual((starts, ends, steps), ([1, 0], [1], [(1, "b", 0), (0, "a", 1)]))
        starts.append(0)
        ends.clear()
        steps[0] = None
        self.assertEqual(book, Book("ab", 2, [0, 1], [1], [(0, "a", 1), (1, "b", 0)]))

    def test_what_was_returned(self):
        book = Book("ab", 2, [0], [1], [(0, "a", 1)])
        book.steps().append((1, "b", 0))
        book.coming().clear()
        self.assertEqual(book.steps(), [(0, "a", 1)])
        self.assertEqual(book.coming(), [("", (0,)), ("a", (1,)), ("b", ())])
        self.assertIsNot(book.steps(), book.steps())
        self.assertIsNot(book.coming(), book.coming())

    def test_parts_are_not_assigned(self):
        for name in ["letters", "size", "starts", "ends"]:
            with self.assertRaises(AttributeError):
                setattr(SOME_BOOK, name, getattr(SOME_BOOK, name))

    def test_sets_that_are_passed(self):
        some = [1, 0]
        book = Book("ab", 2)
        with_starts, with_ends = book.with_starts(some), book.with_ends(some)
        book.comes(some, "a")
        book.reads(some, "a")
        list(book.runs(some, "a"))
        self.assertEqual(some, [1, 0])
        some.pop()
        self.assertEqual((with_starts.starts, with_ends.ends), ((0, 1), (0, 1)))

    def test_calls_that_raise(self):
        for book in sample_books(20):
            before = repr(book)
            for call in [lambda: book + (0, "a"), lambda: book - (9, "a", 0), lambda: book | None, lambda: book & 1,
                         lambda: 7 >> book, lambda: book << "#", lambda: book.comes([0, 0], ""), lambda: book("#"),
                         lambda: book | Book("k", 1), lambda: book | Book(book.letters, 7),
                         lambda: book.with_starts([7]), lambda: book.with_ends(None)]:
                with self.assertRaises((ValueError, RuntimeError, ArithmeticError)):
                    call()
            self.assertEqual(repr(book), before)


class Parts(Checks):
    def test_plus(self):
        book = Book("ab", 2, [0], [1])
        more = book + (1, "b", 0) + (0, "a", 1)
        self.assertEqual(more, Book("ab", 2, [0], [1], [(0, "a", 1), (1, "b", 0)]))
        self.assertEqual(more + (1, "b", 0), more)
        self.assertEqual(book, Book("ab", 2, [0], [1]))

    def test_minus(self):
        book = Book("ab", 2, [0], [1], [(0, "a", 1), (1, "b", 0)])
        self.assertEqual(book - (0, "a", 1), Book("ab", 2, [0], [1], [(1, "b", 0)]))
        self.assertEqual(book - (0, "b", 1), book)
        self.assertEqual(len(book), 2)

    def test_each_step_of_many_books(self):
        for book in sample_books(20):
            for step in itertools.product(range(book.size), book.letters, range(book.size)):
                steps = book.steps()
                more, less = book + step, book - step
                self.assertEqual(more.steps(), sorted({*steps, step}))
                self.assertEqual(less.steps(), [other for other in steps if other != step])
                for made in (more, less):
                    self.assertEqual((made.letters, made.size, made.starts, made.ends),
                                     (book.letters, book.size, book.starts, book.ends))

    def test_with_starts_and_ends(self):
        for book in sample_books(20):
            for some in [[], (0,), list(range(book.size))[::-1]]:
                due = tuple(sorted(some))
                self.assertEqual(book.with_starts(some), Book(book.letters, book.size, due, book.ends, book.steps()))
                self.assertEqual(book.with_ends(some=some),
                                 Book(book.letters, book.size, book.starts, due, book.steps()))


class Wrong(Checks):
    def test_letters(self):
        for value in NO_LETTERS:
            told = {"value": value}
            self.check_raises(InvalidLetters, told, Book, value, 1)
            self.check_raises(InvalidLetters, told, Book, value, None, 5, {}, "steps")
            self.check_raises(InvalidLetters, told, Book, size=0, letters=value)
            self.check_raises(InvalidLetters, told, Book.of_rooms, value, [(True, (0,))])
            self.check_raises(InvalidLetters, told, Book.of_rooms, rooms=None, letters=value)

    def test_size(self):
        for value in NO_INTEGERS + [0, -1, 8, 10 ** 29]:
            told = {"value": value}
            self.check_raises(InvalidSize, told, Book, "ab", value)
            self.check_raises(InvalidSize, told, Book, "ab", value, None, [1, 1], 3)
            self.check_raises(InvalidSize, told, Book, starts=[9], size=value, letters="ab")

    def test_starts_and_ends_that_are_no_lists(self):
        told = {"position": None}
        for value in NO_LISTS:
            self.check_raises(InvalidStates, told, Book, "ab", 2, value)
            self.check_raises(InvalidStates, told, Book, "ab", 2, [], value)
            self.check_raises(InvalidStates, told, Book, "ab", 2, value, [5], None)
            self.check_raises(InvalidStates, told, Book, "ab", 2, ends=value, steps=7)

    def test_starts_and_ends_that_are_no_states(self):
        for value in NO_STATES:
            for at in range(3):
                some = [0, 1]
                some.insert(at, value)
                for wrong in [some, tuple(some), some + [9], some + [0]]:
                    told = {"position": at}
                    self.check_raises(InvalidStates, told, Book, "ab", 2, wrong)
                    self.check_raises(InvalidStates, told, Book, "ab", 2, ends=wrong)

    def test_states_that_stand_there_already(self):
        for some, at in [([0, 0], 1), ([0, 1, 1], 2), ((1, 0, 1, 9), 2), ([0] * 1000, 1)]:
            self.check_raises(InvalidStates, {"position": at}, Book, "ab", 2, some)
            self.check_raises(InvalidStates, {"position": at}, Book, "ab", 2, [], some)

    def test_the_first_wrong_parameter_is_told(self):
        names = ["letters", "size", "starts", "ends", "steps"]
        right = ["ab", 2, [0], [1], [(0, "a", 1)]]
        wrong = ["ba", True, [0, 2], [1, 0, 1], [(1, "b", 1), (0, "c", 1)]]
        due = [(InvalidLetters, {"value": "ba"}), (InvalidSize, {"value": True}), (InvalidStates, {"position": 1}),
               (InvalidStates, {"position": 2}), (InvalidSteps, {"position": 1})]
        for which in itertools.product([False, True], repeat=5):
            if any(which):
                values = [wrong[at] if which[at] else right[at] for at in range(5)]
                error, told = due[which.index(True)]
                self.check_raises(error, told, Book, *values)
                self.check_raises(error, told, Book, **dict(reversed(list(zip(names, values)))))

    def test_starts_come_ahead_of_ends_and_these_ahead_of_steps(self):
        self.check_raises(InvalidStates, {"position": 0}, Book, "ab", 2, [2], [0, 2], None)
        self.check_raises(InvalidStates, {"position": 1}, Book, "ab", 2, [1], [0, 2], None)
        self.check_raises(InvalidSteps, {"position": None}, Book, "ab", 2, [1], [0], None)

    def test_steps_that_are_no_list(self):
        for value in NO_LISTS:
            self.check_raises(InvalidSteps, {"position": None}, Book, "ab", 2, [0], [1], value)
            self.check_raises(InvalidSteps, {"position": None}, Book, steps=value, letters="ab", size=2)

    def test_steps_that_are_none(self):
        for value in NO_STEPS:
            for at in range(3):
                steps = [(0, "a", 1), (1, "b", 1)]
                steps.insert(at, value)
                for wrong in [steps, tuple(steps), steps + [(9, "a", 0)]]:
                    self.check_raises(InvalidSteps, {"position": at}, Book, "ab", 2, [0], [1], wrong)

    def test_steps_that_stand_there_already(self):
        steps = [(0, "a", 1), (1, "b", 1), (0, "a", 1), None]
        self.check_raises(InvalidSteps, {"position": 2}, Book, "ab", 2, steps=steps)

    def test_steps_of_other_books(self):
        self.check_raises(InvalidSteps, {"position": 1}, Book, "ac", 2, steps=[(0, "c", 0), (0, "b", 0)])
        self.check_raises(InvalidSteps, {"position": 0}, Book, "a", 1, steps=[(0, "a", 1)])
        self.check_raises(InvalidSteps, {"position": 0}, Book, "a", 7, steps=[(7, "a", 0)])

    def test_plus_and_minus(self):
        for value in NO_STEPS:
            self.check_raises(InvalidStep, {"value": value}, lambda: SOME_BOOK + value)
            self.check_raises(InvalidStep, {"value": value}, lambda: SOME_BOOK - value)

    def test_with_starts_and_ends(self):
        for value in NO_SETS:
            self.check_raises(InvalidSet, {"value": value}, SOME_BOOK.with_starts, value)
            self.check_raises(InvalidSet, {"value": value}, SOME_BOOK.with_ends, value)
            self.check_raises(InvalidSet, {"value": value}, SOME_BOOK.with_ends, some=value)


class Rooms(Checks):
    def test_of_rooms(self):
        rooms = [(False, (1, 1)), (False, (2, 2)), (True, (3, 3)), (False, (3, 3))]
        due = Book("ab", 4, [0], [2], [(0, "a", 1), (0, "b", 1), (1, "a", 2), (1, "b", 2), (2, "a", 3), (2, "b", 3),
                                       (3, "a", 3), (3, "b", 3)])
        self.assertEqual(Book.of_rooms("ab", rooms), due)
        self.assertEqual(Book.of_rooms(rooms=tuple(rooms), letters="ab"), due)
        self.assertEqual(SOME_BOOK.of_rooms("ab", rooms), due)
        self.assertEqual(rooms, [(False, (1, 1)), (False, (2, 2)), (True, (3, 3)), (False, (3, 3))])

    def test_one_room_and_seven(self):
        self.assertEqual(Book.of_rooms("c", [(True, (0,))]), Book("c", 1, [0], [0], [(0, "c", 0)]))
        seven = [(at == 6, ((at + 1) % 7, 0)) for at in range(7)]
        book = Book.of_rooms("xy", seven)
        self.assertEqual((book.size, book.starts, book.ends), (7, (0,), (6,)))
        self.assertEqual(book("xxxxxx"), (6,))
        self.assertEqual(book("xxxyx"), (1,))

    def test_letters_lead_in_their_sequence(self):
        self.assertEqual(Book.of_rooms("ac", [(False, (1, 0)), (True, (0, 1))]).steps(),
                         [(0, "a", 1), (0, "c", 0), (1, "a", 0), (1, "c", 1)])

    def test_no_list_of_one_to_seven(self):
        for value in NO_LISTS + [[], (), [(True, (0, 0))] * 8, [None] * 8, [None] * 1000]:
            self.check_raises(InvalidRooms, {"position": None}, Book.of_rooms, "ab", value)
            self.check_raises(InvalidRooms, {"position": None}, Book.of_rooms, rooms=value, letters="ab")

    def test_no_rooms(self):
        wrong = [None, True, (), (True,), (True, (0, 1), 0), [True, (0, 1)], (True, [0, 1]), (1, (0, 1)), (0, (0, 1)),
                 (None, (0, 1)), ((0, 1), True), (True, (0,)), (True, (0, 1, 0)), (True, ()), (True, "01"), (True, 0),
                 (True, None), (Own(), (0, 1)), (Alike(), (0, 1)), "ab", {True: (0, 1)}]
        wrong = wrong + [(True, (value, 0)) for value in NO_STATES] + [(False, (1, value)) for value in NO_STATES]
        for value in wrong:
            self.check_raises(InvalidRooms, {"position": 0}, Book.of_rooms, "ab", [value, None])
            self.check_raises(InvalidRooms, {"position": 1}, Book.of_rooms, "ab", ((True, (0, 1)), value))


if __name__ == "__main__":
    unittest.main()
