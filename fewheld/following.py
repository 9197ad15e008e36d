"""Books that are followed in other books, their readings shown, or by the row alone."""

from fewheld.alike import check_two_books
from fewheld.books import check_book, check_same_letters
from fewheld.crowds import meeting_crowd, part_crowds, sets_in, small_crowd
from fewheld.errors import InvalidRun, NotEnough
from fewheld.masks import mask_of, move_tables, states_of
from fewheld.rows import check_row
from fewheld.search import least_right
from fewheld.states import is_state, set_order
from fewheld.terms import Terms
from fewheld.values import check_count


def shown_family(one, other, k):
    """The greatest shown family: the list of its pairs (state, set), by states, then by sets in order."""
    check_following(one, other, k)
    crowds = shown_terms(one, other, k).greatest()
    return [(state, states) for state in range(one.size) for states in sets_in(crowds[state])]


def row_family(one, other, k):
    """The greatest row family: the list of its pairs (set of one, set of other), by these sets in order."""
    check_following(one, other, k)
    crowds = row_terms(one, other, k).greatest()
    coming = sorted([states_of(mask) for mask in crowds], key=set_order)
    return [(come, states) for come in coming for states in sets_in(crowds[mask_of(come)])]


def is_enough_shown(one, other, k):
    """Whether the one book is followed in the other one by k held states, its readings shown."""
    check_following(one, other, k)
    return shown_terms(one, other, k).is_enough()


def is_enough_by_row(one, other, k):
    """Whether the one book is followed in the other one by k held states, by the row alone."""
    check_following(one, other, k)
    return row_terms(one, other, k).is_enough()


def least_shown(one, other):
    """The least k that is enough shown, None if no k is."""
    check_two_books(one, other)
    return least_enough(other.size, lambda k: shown_terms(one, other, k).is_enough())


def least_by_row(one, other):
    """The least k that is enough by the row, None if no k is."""
    check_two_books(one, other)
    return least_enough(other.size, lambda k: row_terms(one, other, k).is_enough())


def followed(one, other, k, row, run):
    """The list of the sets that are held along a run of the row from the starts of one."""
    check_book(one)
    check_book(other)
    check_count(k)
    check_row(one.letters, row)
    if not is_run(one, row, run):
        raise InvalidRun(run)
    check_same_letters(one, other)
    terms = shown_terms(one, other, k)
    if not terms.is_enough():
        raise NotEnough(k)
    return held_along(other, terms.greatest(), row, run)


def check_following(one, other, k):
    """Raise an error unless these are two books over the same letters, and a number of held states."""
    check_book(one)
    check_book(other)
    check_count(k)
    check_same_letters(one, other)


def shown_terms(one, other, k):
    """What shown families keep to; the places are the states of one."""
    moves = move_tables(other)
    parts = part_crowds(other.size)
    small = small_crowd(other.size, k)
    ended = small & meeting_crowd(other.size, other.ends)
    limits = {state: ended if state in one.ends else small for state in range(one.size)}
    wants = {state: [] for state in range(one.size)}
    for before, letter, behind in one.steps():
        wants[before].append((moves[letter], behind, parts))
    return Terms(limits, wants, [(state, parts[mask_of(other.starts)]) for state in one.starts])


def row_terms(one, other, k):
    """What row families keep to; the places are the masks of the sets that come in one."""
    leads = move_tables(one)
    moves = move_tables(other)
    parts = part_crowds(other.size)
    small = small_crowd(other.size, k)
    ended = small & meeting_crowd(other.size, other.ends)
    ends = mask_of(one.ends)
    coming = [mask_of(states) for _, states in one.coming()]
    limits = {mask: ended if mask & ends != 0 else small for mask in coming}
    wants = {mask: [(moves[letter], leads[letter][mask], parts) for letter in one.letters] for mask in coming}
    return Terms(limits, wants, [(mask_of(one.starts), parts[mask_of(other.starts)])])


def least_enough(most, is_right):
    """The least number, up to the most, that is right, None if there is none."""
    return least_right(most, is_right) if is_right(most) else None


def is_run(book, row, value):
    """Whether the value is a run of the row from the starts, to whatever state."""
    if not isinstance(value, tuple) or len(value) != len(row) + 1:
        return False
    if not all([is_state(book.size, state) for state in value]) or value[0] not in book.starts:
        return False
    steps = book.steps()
    return all([step in steps for step in zip(value, row, value[1:])])


def held_along(book, crowds, row, run):
    """What is held of the book along the run: the first sets that stand beside its states in the crowds."""
    parts = part_crowds(book.size)
    come = book.starts
    held = []
    for at, state in enumerate(run):
        held.append(sets_in(crowds[state] & parts[mask_of(come)])[0])
        if at < len(row):
            come = book.comes(held[-1], row[at])
    return held
