"""Claims about books, and papers that show that they are true."""

from fewheld.ahead import MOST_AHEAD
from fewheld.books import Book
from fewheld.counts import MOST_RISES
from fewheld.errors import InvalidClaim
from fewheld.papers import made_paper
from fewheld.proofs import is_right_paper
from fewheld.states import is_order, is_told_set
from fewheld.values import is_count

KINDS = ("alike", "parted", "missing", "enough", "exhausted", "harmless", "loses", "ahead", "shown", "doubling",
         "degree", "bounded")
# For each kind of claim what stands behind it.
PARTS = {
    "alike": "book set set",
    "parted": "book set set",
    "missing": "book set set",
    "enough": "book count",
    "exhausted": "book count",
    "harmless": "book order count",
    "loses": "book order count",
    "ahead": "book count letters",
    "shown": "book book count",
    "doubling": "book",
    "degree": "book rises",
    "bounded": "book count",
}


def is_claim(value):
    """Whether the value is a claim."""
    if not isinstance(value, tuple) or not value or not isinstance(value[0], str) or value[0] not in KINDS:
        return False
    kinds = PARTS[value[0]].split()
    parts = value[1:]
    if len(parts) != len(kinds) or not isinstance(parts[0], Book):
        return False
    # No claim about two books has sets or orders, so all parts are beside the first one.
    return all([is_part(parts[0], kind, part) for kind, part in zip(kinds, parts)])


def paper_of(claim):
    """A paper of the claim, None if it is not true."""
    check_claim(claim)
    return made_paper(claim[0], claim[1:])


def is_paper(claim, value):
    """Whether the value is a paper of the claim."""
    check_claim(claim)
    return is_right_paper(claim[0], claim[1:], value)


def check_claim(claim):
    """Raise InvalidClaim unless this is a claim."""
    if not is_claim(claim):
        raise InvalidClaim(claim)


def is_part(book, kind, part):
    """Whether this can stand in a claim about the book, as a part of this kind."""
    if kind == "book":
        return isinstance(part, Book) and part.letters == book.letters
    if kind == "set":
        return is_told_set(book.size, part)
    if kind == "order":
        return isinstance(part, tuple) and is_order(book.size, part)
    if kind == "letters":
        return is_count(part) and part <= MOST_AHEAD
    if kind == "rises":
        return is_count(part) and part <= MOST_RISES
    return is_count(part)
