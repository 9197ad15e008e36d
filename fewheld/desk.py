"""A desk: books under names, and commands that ask and change them."""

from fewheld.books import check_book
from fewheld.commands import answer_to, books_behind, check_names, is_question
from fewheld.errors import (BookError, CommandFailed, InvalidName, LimitError, MissingError, NothingToUndo, StateError,
                            UnknownName)
from fewheld.forms import words_of
from fewheld.words import is_name

DONE = "done"


class Desk:
    """Books under names; at first there are none."""

    def __init__(self):
        # Neither the dict nor the list is ever changed: others take their
        # place, so that they can be kept for the time when they are taken back.
        self._books = {}
        self._past = []

    def do(self, command):
        """The answer to the command."""
        words = words_of(command)
        if words[0] == "undo":
            self._take_back()
            return DONE
        check_names(self._books, words)
        if is_question(words):
            return answer_to(self._books, words)
        self._put(" ".join(words), books_behind(self._books, words))
        return DONE

    def do_all(self, *commands):
        """The answers to the commands; if one of them fails, none has an effect."""
        tried = self._copy()
        answers = answers_of(tried, commands)
        self._books = tried._books
        self._past = tried._past
        return answers

    def attempt(self, *commands):
        """The answers that the commands would have; none has an effect."""
        return answers_of(self._copy(), commands)

    def log(self):
        """The commands that changed books and were not taken back."""
        return [command for command, _ in self._past]

    def names(self):
        """The sorted list of the names."""
        return sorted(self._books)

    def __getitem__(self, at):
        if at not in self:
            raise UnknownName(at)
        return self._books[at]

    def __setitem__(self, at, worth):
        if not is_name(at):
            raise InvalidName(at)
        check_book(worth)
        name = "".join(list(at))
        self._put(f"set {name}", {**self._books, name: worth})

    def __iter__(self):
        raise TypeError("the books are not iterated over")

    def __len__(self):
        return len(self._books)

    def __contains__(self, x):
        return isinstance(x, str) and x in self._books

    def _put(self, command, books):
        """Let the books be these, by this command."""
        self._past = self._past + [(command, self._books)]
        self._books = books

    def _take_back(self):
        """Let the books be as they were ahead of the last command that changed them."""
        if not self._past:
            raise NothingToUndo()
        _, books = self._past[-1]
        self._past = self._past[:-1]
        self._books = books

    def _copy(self):
        """Another desk that has the same books and the same past."""
        made = Desk()
        made._books = self._books
        made._past = self._past
        return made


def answers_of(desk, commands):
    """The answers to the commands, which are done one by one; CommandFailed if one of them fails."""
    answers = []
    for position, command in enumerate(commands):
        try:
            answers.append(desk.do(command))
        except (BookError, MissingError, StateError, LimitError) as why:
            raise CommandFailed(position) from why
    return answers
