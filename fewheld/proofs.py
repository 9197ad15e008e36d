"""Whether values are papers: each is looked at by itself, not beside one that could have been made."""

from fewheld.ahead import Sight, all_windows, is_window
from fewheld.alike import Likeness
from fewheld.counts import is_chain, is_doubling
from fewheld.families import PLACE, cover_crowds, family_terms, fitting_crowd, told_crowd
from fewheld.following import shown_terms
from fewheld.masks import mask_of
from fewheld.readers import ListRule, has_end, track_by
from fewheld.rows import is_over
from fewheld.states import is_letter, is_state, is_told_set
from fewheld.tallies import first_tally, readings_of, sources_of, tally_behind
from fewheld.values import is_count, is_integer, is_list


def is_right_paper(kind, parts, value):
    """Whether the value is a paper of the claim of this kind about these parts."""
    check = CHECKS[kind]
    return check(*parts, value)


def is_class_number(book, one, other, value):
    """Whether both sets are of the class with this number."""
    likeness = Likeness(book)
    return is_integer(value) and likeness[one] == value and likeness[other] == value


def is_parting_row(book, one, other, value):
    """Whether just one of the sets reads the row."""
    return is_over(book.letters, value) and book.reads(one, value) != book.reads(other, value)


def is_missing_row(book, one, other, value):
    """Whether the one set reads the row and the other one does not."""
    return is_over(book.letters, value) and book.reads(one, value) and not book.reads(other, value)


def is_enough_family(book, k, value):
    """Whether this is a family within the budget that has what is wanted at the beginning."""
    crowd = told_crowd(book, value)
    if crowd is None:
        return False
    return family_terms(book, cover_crowds(book), fitting_crowd(book, k, None)).is_kept_by({PLACE: crowd})


def are_struck_entries(book, k, value):
    """Whether these are sets with letters that show one by one that none of them is in a family within the budget."""
    if not are_pairs(value, lambda states, letter: is_told_set(book.size, states) and is_letter(book.letters, letter)):
        return False
    covers = cover_crowds(book)
    fits = fitting_crowd(book, k, None)
    gone = 0
    for states, letter in value:
        if covers[mask_of(book.comes(states, letter))] & fits & ~gone != 0:
            return False
        gone = gone | 1 << mask_of(states)
    return covers[mask_of(book.starts)] & fits & ~gone == 0


def are_harmless_entries(book, order, width, value):
    """Whether these are sets, with what is held of them, among which the list rule goes about, and loses no row."""
    if not are_pairs(value, lambda states, held: is_told_set(book.size, states) and is_told_set(book.size, held)
                     and mask_of(held) & ~mask_of(states) == 0):
        return False
    rule = ListRule(order, width)
    told = {(states, held): True for states, held in value}
    wanted = [(book.starts, rule.begins(book))]
    for states, held in told:
        if has_end(book, states) and not has_end(book, held):
            return False
        wanted.extend([(book.comes(states, letter), rule.holds(book, held, letter)) for letter in book.letters])
    return all([pair in told for pair in wanted])


def is_lost_row(book, order, width, value):
    """Whether the list rule loses the row."""
    if not is_over(book.letters, value):
        return False
    states, held = track_by(book, ListRule(order, width), value)[-1]
    return has_end(book, states) and not has_end(book, held)


def are_pairs_ahead(book, k, d, value):
    """Whether these are sets and windows, closed as an ahead family is, that have what is wanted at the beginning."""
    if not are_pairs(value, lambda states, window: is_told_set(book.size, states)
                     and is_window(book.letters, d, window)):
        return False
    crowds = crowds_told(all_windows(book.letters, d), [(window, states) for states, window in value])
    return Sight(book, d).terms(k).is_kept_by(crowds)


def are_pairs_shown(one, other, k, value):
    """Whether these are states and sets, closed as a shown family is, that have what is wanted at the beginning."""
    if not are_pairs(value, lambda state, states: is_state(one.size, state) and is_told_set(other.size, states)):
        return False
    crowds = crowds_told(list(range(one.size)), value)
    return shown_terms(one, other, k).is_kept_by(crowds)


def is_any_doubling(book, value):
    """Whether this is a doubling."""
    return is_doubling(book, value)


def is_chain_of(book, rises, value):
    """Whether this is a chain of so many rises."""
    return is_chain(book, value) and len(value[1]) == rises


def are_bounded_tallies(book, number, value):
    """Whether these are numbers for all states that tell of all rows that they have no more readings."""
    if not is_list(value) or not all([is_tally(book, tally) for tally in value]):
        return False
    useful = book.useful()
    every = sources_of(book)
    sources = {letter: [befores if state in useful else [] for state, befores in enumerate(every[letter])]
               for letter in book.letters}
    told = {tuple(tally): True for tally in value}
    if first_tally(book.with_starts([state for state in book.starts if state in useful])) not in told:
        return False
    return all([readings_of(book, tally) <= number
                and all([tally_behind(sources[letter], tally) in told for letter in book.letters])
                for tally in told])


def are_pairs(value, is_right):
    """Whether the value is a list of tuples of two parts that are right together."""
    return is_list(value) and all([isinstance(pair, tuple) and len(pair) == 2 and is_right(pair[0], pair[1])
                                   for pair in value])


def is_tally(book, value):
    """Whether the value is a list of a count for each state."""
    return is_list(value) and len(value) == book.size and all([is_count(number) for number in value])


def crowds_told(places, pairs):
    """For each of the places the crowd of the sets that stand beside it in the pairs."""
    crowds = {place: 0 for place in places}
    for place, states in pairs:
        crowds[place] = crowds[place] | 1 << mask_of(states)
    return crowds


# Each tells whether its last value is a paper of the claim about those ahead of it.
CHECKS = {
    "alike": is_class_number,
    "parted": is_parting_row,
    "missing": is_missing_row,
    "enough": is_enough_family,
    "exhausted": are_struck_entries,
    "harmless": are_harmless_entries,
    "loses": is_lost_row,
    "ahead": are_pairs_ahead,
    "shown": are_pairs_shown,
    "doubling": is_any_doubling,
    "degree": is_chain_of,
    "bounded": are_bounded_tallies,
}
