"""What the commands of a desk tell of its books, or make of them."""

from fewheld.ahead import least_ahead
from fewheld.alike import cover_width
from fewheld.books import Book
from fewheld.counts import degree, greatest, many_readings
from fewheld.errors import NameTaken, UnknownName
from fewheld.families import exhausted_in, held_width
from fewheld.following import least_by_row, least_shown
from fewheld.forms import kinds_of, row_in, word_of_row
from fewheld.mending import opened
from fewheld.readers import ListRule, lost_row
from fewheld.states import check_letter, check_order, check_set
from fewheld.words import number_in, numbers_in, spaced

# What is answered where a set has no states, and where no row is lost.
NO_STATES = "-"
NO_ROW = "nothing"


def check_names(books, words):
    """Raise an error unless the new name is free, and the other names are those of books."""
    for kind, word in zip(kinds_of(words), words[1:]):
        if kind == "new" and word in books:
            raise NameTaken(word)
        if kind == "name" and word not in books:
            raise UnknownName(word)


def is_question(words):
    """Whether the command only asks."""
    return words[0] in ANSWERS


def answer_to(books, words):
    """What the command that only asks is answered."""
    answer = ANSWERS[words[0]]
    return answer(books, words[1:])


def books_behind(books, words):
    """The books as they are behind the command that changes them."""
    name = words[1]
    others = {other: books[other] for other in books if other != name}
    if words[0] == "drop":
        return others
    make = MAKERS[words[0]]
    book = make(books, words[1:])
    return {**others, name: book}


# The words that these functions get are those behind the first one.


def bare_book(_, words):
    """A book without starts, ends, steps."""
    return Book(words[1], number_in(words[2]))


def same_book(books, words):
    """The book itself."""
    return books[words[1]]


def book_of_side(books, words):
    """The one book beside the other one."""
    return books[words[1]] | books[words[2]]


def book_of_both(books, words):
    """The book that reads what both read."""
    return books[words[1]] & books[words[2]]


def book_turned(books, words):
    """The book turned about."""
    return ~books[words[1]]


def book_opened(books, words):
    """The opened book."""
    return opened(books[words[1]])


def book_with_start(books, words):
    """The book with the state as start, or without it as one, if it was one."""
    book = books[words[0]]
    return book.with_starts(turned(book, book.starts, number_in(words[1])))


def book_with_end(books, words):
    """The book with the state as end, or without it as one, if it was one."""
    book = books[words[0]]
    return book.with_ends(turned(book, book.ends, number_in(words[1])))


def book_with_step(books, words):
    """The book with the step, or without it, if it was there."""
    name, before, letter, behind = words
    book = books[name]
    step = (number_in(before), letter, number_in(behind))
    check_set(book.size, step[:1])
    check_letter(book.letters, letter)
    check_set(book.size, step[2:])
    return book - step if step in book.steps() else book + step


def turned(book, states, state):
    """The states with this one, or without it, if it was there."""
    check_set(book.size, (state,))
    if state in states:
        return [other for other in states if other != state]
    return [*states, state]


def whether_read(books, words):
    """Whether the book reads the row."""
    book = books[words[0]]
    return "yes" if book.reads(book.starts, row_in(words[1])) else "no"


def states_coming(books, words):
    """What comes of the starts by the row."""
    book = books[words[0]]
    return spaced(book(row_in(words[1]))) or NO_STATES


def number_of_readings(books, words):
    """The number of readings of the row."""
    return str(many_readings(books[words[0]], row_in(words[1])))


def both_widths(books, words):
    """The held width and the cover width."""
    book = books[words[0]]
    width, _ = cover_width(book)
    return spaced([held_width(book), width])


def whether_enough(books, words):
    """Whether the budget is enough, and if it is not, in how many letters it is exhausted."""
    many = exhausted_in(books[words[0]], number_in(words[1]))
    return "yes" if many is None else f"no in {many}"


def least_with_letters_ahead(books, words):
    """The least number that is enough with so many letters ahead."""
    return str(least_ahead(books[words[0]], number_in(words[1])))


def row_lost(books, words):
    """The first row that the list rule loses."""
    book = books[words[0]]
    width, *order = numbers_in(words[1:])
    check_order(book.size, tuple(order))
    row = lost_row(book, ListRule(order, width))
    return NO_ROW if row is None else word_of_row(row)


def least_followers(books, words):
    """The least numbers that are enough shown, and by the row."""
    one = books[words[0]]
    other = books[words[1]]
    shown = least_shown(one, other)
    return "never" if shown is None else spaced([shown, least_by_row(one, other)])


def growth(books, words):
    """How the numbers of readings grow."""
    book = books[words[0]]
    rises = degree(book)
    if rises is None:
        return "doubling"
    if rises > 0:
        return f"degree {rises}"
    number, _ = greatest(book)
    return f"at most {number}"


MAKERS = {
    "make": bare_book,
    "copy": same_book,
    "side": book_of_side,
    "both": book_of_both,
    "turn": book_turned,
    "opened": book_opened,
    "start": book_with_start,
    "end": book_with_end,
    "step": book_with_step,
}
ANSWERS = {
    "reads": whether_read,
    "comes": states_coming,
    "readings": number_of_readings,
    "width": both_widths,
    "enough": whether_enough,
    "ahead": least_with_letters_ahead,
    "loses": row_lost,
    "follow": least_followers,
    "growth": growth,
}
