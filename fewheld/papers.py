"""Papers that show that claims are true."""

from fewheld.ahead import ahead_family, is_enough_ahead
from fewheld.alike import Likeness, missing, parting
from fewheld.counts import chain, doubling, greatest
from fewheld.families import family, is_enough, struck
from fewheld.following import is_enough_shown, shown_family
from fewheld.readers import ListRule, lost_row, walk
from fewheld.search import found_along
from fewheld.tallies import first_tally, sources_of, tally_behind, useful_part


def made_paper(kind, parts):
    """A paper of the claim of this kind about these parts, None if it is not true."""
    make = MAKERS[kind]
    return make(*parts)


def class_number(book, one, other):
    """The number of the class of both sets."""
    likeness = Likeness(book)
    return likeness[one] if likeness[one] == likeness[other] else None


def parting_row(book, one, other):
    """A row that just one of the sets reads."""
    return parting(book, one, other)


def missing_row(book, one, other):
    """A row that the one set reads and the other one does not."""
    return missing(book, one, other)


def enough_family(book, k):
    """A family that has what is wanted at the beginning."""
    return family(book, k) if is_enough(book, k) else None


def struck_entries(book, k):
    """The struck sets, each with a letter, those ahead that are struck in an earlier turn."""
    return None if is_enough(book, k) else [(states, letter) for _, states, letter in struck(book, k)]


def harmless_entries(book, order, width):
    """What comes and is held together."""
    rule = ListRule(order, width)
    if lost_row(book, rule) is not None:
        return None
    return [(states, held) for _, states, held in walk(book, rule)]


def row_that_is_lost(book, order, width):
    """A row that the list rule loses."""
    return lost_row(book, ListRule(order, width))


def enough_ahead(book, k, d):
    """An ahead family that has what is wanted at the beginning."""
    return ahead_family(book, k, d) if is_enough_ahead(book, k, d) else None


def enough_shown(one, other, k):
    """A shown family that has what is wanted at the beginning."""
    return shown_family(one, other, k) if is_enough_shown(one, other, k) else None


def some_doubling(book):
    """A doubling."""
    return doubling(book)


def some_chain(book, rises):
    """A chain of so many rises."""
    return chain(book, rises)


def bounded_tallies(book, number):
    """The numbers of runs to the useful states, for all rows."""
    most = greatest(book)
    if most is None or most[0] > number:
        return None
    part = useful_part(book)
    sources = sources_of(part)
    found = found_along(part.letters, first_tally(part), lambda tally, letter: tally_behind(sources[letter], tally))
    return [list(tally) for _, tally in found]


# Each makes a paper, or None if the claim is not true. A table has functions of
# its own file alone, so some of them do no more than call another one.
MAKERS = {
    "alike": class_number,
    "parted": parting_row,
    "missing": missing_row,
    "enough": enough_family,
    "exhausted": struck_entries,
    "harmless": harmless_entries,
    "loses": row_that_is_lost,
    "ahead": enough_ahead,
    "shown": enough_shown,
    "doubling": some_doubling,
    "degree": some_chain,
    "bounded": bounded_tallies,
}
