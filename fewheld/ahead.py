"""How much must be held at once if the next letters are seen: windows, ahead families, stairs."""

from fewheld.books import check_book
from fewheld.crowds import same_parts, sets_in, small_crowd
from fewheld.errors import InvalidWindow, TooMany
from fewheld.marks import Marks
from fewheld.masks import mask_of, move_tables
from fewheld.rows import check_letters, is_over, numbered_row, rows_up_to
from fewheld.search import least_right
from fewheld.states import check_letter, check_set
from fewheld.terms import Terms
from fewheld.values import check_count

MOST_AHEAD = 3
STOP = "."


def windows(letters, d):
    """The list of the windows of d letters, in order."""
    check_letters(letters)
    check_ahead(d)
    return all_windows(letters, d)


def following(letters, d, window):
    """The list of the windows that follow the window, in order."""
    check_letters(letters)
    check_ahead(d)
    check_window(letters, d, window)
    return followers(letters, window)


def ahead_family(book, k, d):
    """The greatest ahead family within k: the list of its pairs (set, window), by windows, then by sets in order."""
    check_book(book)
    check_count(k)
    check_ahead(d)
    crowds = Sight(book, d).terms(k).greatest()
    return [(states, window) for window in all_windows(book.letters, d) for states in sets_in(crowds[window])]


def is_enough_ahead(book, k, d):
    """Whether k is enough with d letters ahead."""
    check_book(book)
    check_count(k)
    check_ahead(d)
    return Sight(book, d).terms(k).is_enough()


def least_ahead(book, d):
    """The least k that is enough with d letters ahead."""
    check_book(book)
    check_ahead(d)
    return least_in_sight(book, d)


def stairs(book, d):
    """The list of the least k that are enough with 0, 1, .. d letters ahead."""
    check_book(book)
    check_ahead(d)
    return [least_in_sight(book, many) for many in range(d + 1)]


def choices_ahead(book, k, d, some, letter, window):
    """The list of the sets that can be held behind the set by the letter with the window seen then, in order."""
    check_book(book)
    check_count(k)
    check_ahead(d)
    check_set(book.size, some)
    check_letter(book.letters, letter)
    check_window(book.letters, d, window)
    return Sight(book, d).chosen(k, window, mask_of(book.comes(some, letter)))


def first_choices_ahead(book, k, d, window):
    """The list of the sets that can be held at the beginning with the window seen then, in order."""
    check_book(book)
    check_count(k)
    check_ahead(d)
    check_window(book.letters, d, window)
    return Sight(book, d).chosen(k, window, mask_of(book.starts))


class Sight:
    """What pairs of sets of a book and windows of d letters are good behind, and what they want."""

    def __init__(self, book, d):
        letters = book.letters
        moves = move_tables(book)
        self._book = book
        self._goods = good_parts(book, moves, all_windows(letters, d))
        self._wants = {window: [(moves[letter], behind, self._goods[behind])
                                for letter in coming_letters(letters, window)
                                for behind in followers(letters, window)] for window in self._goods}

    def terms(self, k):
        """What ahead families within k keep to; the places are the windows."""
        small = small_crowd(self._book.size, k)
        starts = mask_of(self._book.starts)
        begins = [(window, goods[starts]) for window, goods in self._goods.items()]
        return Terms({window: small for window in self._goods}, self._wants, begins)

    def chosen(self, k, window, mask):
        """The parts of the mask that are in the ahead family with the window, and good behind the mask, in order."""
        return sets_in(self.terms(k).greatest()[window] & self._goods[window][mask])


def check_ahead(d):
    """Raise an error unless so many letters can be seen ahead."""
    check_count(d)
    if d > MOST_AHEAD:
        raise TooMany("letters ahead", MOST_AHEAD)


def check_window(letters, d, window):
    """Raise InvalidWindow unless this is a window of d letters."""
    if not is_window(letters, d, window):
        raise InvalidWindow(window)


def is_window(letters, d, value):
    """Whether the value is a window of d letters."""
    if not isinstance(value, str):
        return False
    if value.endswith(STOP):
        return len(value) <= d and is_over(letters, value[:-1])
    return len(value) == d and is_over(letters, value)


def all_windows(letters, d):
    """The windows of d letters, in order."""
    seen = [numbered_row(letters, number) for number in range(rows_up_to(letters, d))]
    return [row if len(row) == d else row + STOP for row in seen]


def followers(letters, window):
    """The windows that follow the window, in order."""
    if window == STOP:
        return []
    if window == "" or window.endswith(STOP):
        return [window[1:]]
    return [window[1:] + more for more in [STOP, *letters]]


def coming_letters(letters, window):
    """The letters that can come when the window is seen."""
    if window == STOP:
        return ""
    return letters if window == "" else window[0]


def good_parts(book, moves, seen):
    """For each of the windows, and each mask, the crowd of the parts of the mask that are good behind it."""
    marks = Marks(book)
    ends = mask_of(book.ends)
    goods = {}
    for window in seen:
        come = list(range(1 << book.size))
        for letter in window.replace(STOP, ""):
            come = [moves[letter][mask] for mask in come]
        keys = [mask & ends != 0 if window.endswith(STOP) else marks.of_mask(mask) for mask in come]
        goods[window] = same_parts(book.size, keys)
    return goods


def least_in_sight(book, d):
    """The least k that is enough with d letters ahead."""
    sight = Sight(book, d)
    return least_right(book.size, lambda k: sight.terms(k).is_enough())
