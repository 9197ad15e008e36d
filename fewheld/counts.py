"""Numbers of readings: how many there are, and how they grow."""

from fewheld.books import check_book, check_same_letters
from fewheld.errors import TooMany
from fewheld.growing import chain_at, chain_of_rises, chain_without_rises, doubling_at, fork_of, most_rises
from fewheld.rows import check_row, is_over
from fewheld.search import first_row, found_along
from fewheld.states import is_state
from fewheld.tallies import (capped_behind, first_tally, high_tallies, readings_of, row_of_unlike, sources_of,
                             tally_behind, useful_part)
from fewheld.values import check_count, is_list

MOST_LENGTH = 6
MOST_RISES = 6


def many_readings(book, row):
    """The number of readings of the row."""
    check_book(book)
    check_row(book.letters, row)
    return readings_of(book, tally_along(sources_of(book), first_tally(book), row))


def spread(book, length):
    """How many rows of this length have so many readings, for each number of readings that occurs."""
    check_book(book)
    check_count(length)
    if length > MOST_LENGTH:
        raise TooMany("letters", MOST_LENGTH)
    tallies = {first_tally(book): 1}
    for _ in range(length):
        tallies = tallies_behind(book, tallies)
    many = {}
    for tally in tallies:
        number = readings_of(book, tally)
        many[number] = many.get(number, 0) + tallies[tally]
    return {number: many[number] for number in sorted(many)}


def doubling(book):
    """A tuple (before, state, round, behind) by which the readings double, None if there is none."""
    check_book(book)
    part = useful_part(book)
    fork = fork_of(part)
    return None if fork is None else doubling_at(part, fork)


def degree(book):
    """The degree, None if there is a doubling."""
    check_book(book)
    part = useful_part(book)
    if fork_of(part) is not None:
        return None
    return most_rises(part, MOST_RISES)


def chain(book, rises):
    """A chain of so many rises, as a tuple (rows, rises), None if there is none."""
    check_book(book)
    check_count(rises)
    if rises > MOST_RISES:
        raise TooMany("rises", MOST_RISES)
    part = useful_part(book)
    if rises == 0:
        return chain_without_rises(part)
    fork = fork_of(part)
    return chain_of_rises(part, rises) if fork is None else chain_at(part, fork, rises)


def is_doubling(book, value):
    """Whether the value is a doubling of the book."""
    check_book(book)
    if not isinstance(value, tuple) or len(value) != 4:
        return False
    before, state, lap, behind = value
    if not is_state(book.size, state) or not all([is_over(book.letters, row) for row in (before, lap, behind)]):
        return False
    at_state = book.with_starts([state]).with_ends([state])
    return state in book(before) and many_readings(at_state, lap) > 1 and book.reads([state], behind)


def is_chain(book, value):
    """Whether the value is a chain of the book, of any number of rises."""
    check_book(book)
    if not isinstance(value, tuple) or len(value) != 2:
        return False
    rows, rises = value
    if not is_list(rows) or not is_list(rises) or len(rows) != len(rises) + 1:
        return False
    if not all([is_over(book.letters, row) for row in rows]) or not all([is_rise(book, rise) for rise in rises]):
        return False
    # Each row leads from one of the states ahead of it to the state behind it.
    froms = [book.starts] + [(rise[2],) for rise in rises]
    goals = [(rise[0],) for rise in rises] + [book.ends]
    return all([leads_to(book, states, row, ends) for states, row, ends in zip(froms, rows, goals)])


def greatest(book):
    """The tuple of the greatest number of readings and the first row that has it, None if they are not bounded."""
    if degree(book) != 0:
        return None
    part = useful_part(book)
    found = high_tallies(part)
    number = max([readings_of(part, tally) for _, tally in found])
    return number, first_row(found, lambda tally: readings_of(part, tally) == number)


def at_once(book):
    """The tuple of the greatest number of useful states that come at once, and the first row by which they come."""
    check_book(book)
    found = useful_part(book).coming()
    number = max([len(states) for _, states in found])
    return number, first_row(found, lambda states: len(states) == number)


def twice_read(book):
    """The first row with more than one reading, None if there is none."""
    check_book(book)
    part = useful_part(book)
    sources = sources_of(part)
    found = found_along(part.letters, first_tally(part), lambda tally, letter: capped_behind(sources[letter], tally, 2))
    return first_row(found, lambda tally: readings_of(part, tally) > 1)


def same_numbers(one, other):
    """The first row with unlike numbers of readings by the two books, None if there is none."""
    check_book(one)
    check_book(other)
    check_same_letters(one, other)
    return row_of_unlike(one, other)


def tally_along(sources, tally, row):
    """The tally behind the row, if this one is ahead of it."""
    here = tally
    for letter in row:
        here = tally_behind(sources[letter], here)
    return here


def tallies_behind(book, tallies):
    """How many rows have each tally, for those that are one letter longer than the ones that are told."""
    sources = sources_of(book)
    longer = {}
    for tally in tallies:
        for letter in book.letters:
            behind = tally_behind(sources[letter], tally)
            longer[behind] = longer.get(behind, 0) + tallies[tally]
    return longer


def leads_to(book, states, row, goals):
    """Whether the row leads from one of the states to one of the goals."""
    come = book.comes(states, row)
    return any([goal in come for goal in goals])


def is_rise(book, value):
    """Whether the value is a rise of the book."""
    if not isinstance(value, tuple) or len(value) != 3:
        return False
    low, row, high = value
    if not is_state(book.size, low) or not is_state(book.size, high) or not is_over(book.letters, row):
        return False
    come = book.comes([low], row)
    return low != high and low in come and high in come and high in book.comes([high], row)
