"""Sets and books that read the same rows: parting and missing rows, classes, covers, the least machine."""

from fewheld.books import check_book, check_same_letters
from fewheld.errors import InvalidCount
from fewheld.marks import Marks
from fewheld.masks import mask_of, move_tables, states_of
from fewheld.search import first_row, found_along
from fewheld.states import all_sets, ascending, check_set, is_state, set_order


def are_alike(book, one, other):
    """Whether the two sets read the same rows."""
    return parting(book, one, other) is None


def is_within(book, one, other):
    """Whether the other set reads all rows that the one reads."""
    return missing(book, one, other) is None


def parting(book, one, other):
    """The first row that just one of the sets reads, None if they are alike."""
    check_two_sets(book, one, other)
    return Marks(book).parting(one, other)


def missing(book, one, other):
    """The first row that the one set reads and the other one does not, None if there is none."""
    check_two_sets(book, one, other)
    return Marks(book).missing(one, other)


class Likeness:
    """The classes of alike sets of a book, numbered in the order of their first sets."""

    def __init__(self, book):
        check_book(book)
        self._book = book
        self._classes = classes_of(book)
        self._numbers = {states: number for number, alike in enumerate(self._classes) for states in alike}

    @property
    def book(self):
        """The book."""
        return self._book

    def __len__(self):
        return len(self._classes)

    def __getitem__(self, at):
        check_set(self._book.size, at)
        return self._numbers[ascending(self._book.size, at)]

    def __iter__(self):
        raise TypeError("the classes are not iterated over")

    def __call__(self, number):
        """The list of the sets of the class with this number, in order."""
        if not is_state(len(self._classes), number):
            raise InvalidCount(number)
        return list(self._classes[number])

    def __eq__(self, other):
        return isinstance(other, Likeness) and self._book == other._book


def covers(book, some):
    """The list of the bare covers of the set, in order."""
    check_book(book)
    check_set(book.size, some)
    return bare_covers(Marks(book), ascending(book.size, some))


def fewest(book, some):
    """The number of states of the cover with the fewest states."""
    check_book(book)
    check_set(book.size, some)
    return fewest_states(Marks(book), ascending(book.size, some))


def cover_width(book):
    """The tuple of the cover width and the first row by which a set comes that wants so many states."""
    check_book(book)
    marks = Marks(book)
    found = [(row, fewest_states(marks, states)) for row, states in book.coming()]
    width = max([wanted for _, wanted in found])
    return width, first_row(found, lambda wanted: wanted == width)


def rooms(book):
    """The least machine: a tuple (whether it ends, the rooms by the letters) for each room."""
    check_book(book)
    marks = Marks(book)
    numbers = {}
    firsts = []
    for _, states in book.coming():
        if marks.of_set(states) not in numbers:
            numbers[marks.of_set(states)] = len(firsts)
            firsts.append(states)
    return [(book.reads(states, ""), tuple([numbers[marks.of_set(book.comes(states, letter))]
                                            for letter in book.letters]))
            for states in firsts]


def books_alike(one, other):
    """Whether the two books read the same rows."""
    return books_parting(one, other) is None


def books_within(one, other):
    """Whether the other book reads all rows that the one reads."""
    return books_missing(one, other) is None


def books_parting(one, other):
    """The first row that just one of the books reads, None if they read the same rows."""
    check_two_books(one, other)
    return first_row(ends_together(one, other), lambda ending: ending[0] != ending[1])


def books_missing(one, other):
    """The first row that the one book reads and the other one does not, None if there is none."""
    check_two_books(one, other)
    return first_row(ends_together(one, other), lambda ending: ending[0] and not ending[1])


def check_two_sets(book, one, other):
    """Raise an error unless these are a book and two of its sets."""
    check_book(book)
    check_set(book.size, one)
    check_set(book.size, other)


def check_two_books(one, other):
    """Raise an error unless these are two books over the same letters."""
    check_book(one)
    check_book(other)
    check_same_letters(one, other)


def classes_of(book):
    """The lists of alike sets, each in order, in the order of their first sets."""
    marks = Marks(book)
    classes = {}
    for states in all_sets(book.size):
        classes.setdefault(marks.of_set(states), []).append(states)
    return list(classes.values())


def parts_of(mask):
    """The masks of all parts of the set with this mask."""
    return [part for part in range(mask + 1) if part & mask == part]


def bare_covers(marks, states):
    """The bare covers of the set, in order."""
    whole = marks.of_set(states)
    found = [states_of(part) for part in parts_of(mask_of(states)) if marks.of_mask(part) == whole]
    bare = [cover for cover in found if is_bare(marks, cover)]
    return sorted(bare, key=set_order)


def is_bare(marks, cover):
    """Whether no state can be left out of the cover."""
    whole = marks.of_set(cover)
    mask = mask_of(cover)
    return all([marks.of_mask(mask - (1 << state)) != whole for state in cover])


def fewest_states(marks, states):
    """The number of states of the cover of the set with the fewest states."""
    return len(bare_covers(marks, states)[0])


def ends_together(one, other):
    """For all that comes in both books by the same row: the first such row, and whether each of them has an end."""
    ones = move_tables(one)
    others = move_tables(other)
    found = found_along(one.letters, (mask_of(one.starts), mask_of(other.starts)),
                        lambda pair, letter: (ones[letter][pair[0]], others[letter][pair[1]]))
    mine = mask_of(one.ends)
    theirs = mask_of(other.ends)
    return [(row, (mine & come != 0, theirs & beside != 0)) for row, (come, beside) in found]
