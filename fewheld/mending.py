"""Books mended: what can be put in without changing what is read, plain parts, and orders that lose nothing."""

from fewheld.books import Book, check_book
from fewheld.crowds import small_crowd
from fewheld.errors import InvalidThings, TooMany
from fewheld.families import cover_crowds, family, family_terms, is_enough, plan_for
from fewheld.marks import Marks
from fewheld.masks import mask_of, move_tables
from fewheld.states import is_state, is_step
from fewheld.values import check_count, is_list

MOST_ORDERED = 6


def fitting(book):
    """The list of all that fits and is not there: states, ascending, then steps, ascending."""
    check_book(book)
    marks = Marks(book)
    states = fitting_states(book, marks, book.starts)
    steps = [(before, letter, behind) for before in range(book.size) for letter in book.letters
             for behind in fitting_states(book, marks, book.comes([before], letter))]
    return states + steps


def opened(book):
    """The book with all steps that fit, and with all states that fit as starts."""
    return with_things(book, fitting(book))


def put_in(book, things):
    """The book with these states as starts, and these steps, put in."""
    check_book(book)
    check_things(book, things)
    return with_things(book, things)


def mend(book, k):
    """The list of what has to be put in so that k is enough; None if k is not enough for the opened book."""
    check_book(book)
    check_count(k)
    # What fits changes nothing of what any set reads, so the covers stay.
    covers = cover_crowds(book)
    small = small_crowd(book.size, k)
    things = fitting(book)
    if not is_mended(book, things, covers, small):
        return None
    left = things
    for thing in things:
        rest = [other for other in left if other != thing]
        if is_mended(book, rest, covers, small):
            left = rest
    return left


def plain_part(book):
    """The part of the book that the plan of the budget 1 goes through; None if one held state is not enough."""
    check_book(book)
    if not is_enough(book, 1):
        return None
    plan = plan_for(book, 1)
    steps = [(held[0], letter, behind[0]) for (held, letter), behind in plan.table().items() if behind]
    return Book(book.letters, book.size, plan.begin, book.ends, steps)


def is_plain(book):
    """Whether at most one state comes in the book behind each row."""
    check_book(book)
    return all([len(states) <= 1 for _, states in book.coming()])


def order_for_one(book):
    """The order whose list rule with the width 1 loses no row; None if one held state is not enough."""
    check_book(book)
    if not is_enough(book, 1):
        return None
    good = [states[0] for states in family(book, 1) if states]
    marks = Marks(book)
    order = []
    left = good
    while left:
        highest = [state for state in left if not any([reads_more(marks, other, state) for other in left])]
        order.append(highest[0])
        left = [state for state in left if state != highest[0]]
    return tuple(order + [state for state in range(book.size) if state not in good])


def right_orders(book, width):
    """Yield the orders, ascending, for which the width is harmless."""
    check_book(book)
    check_count(width)
    if book.size > MOST_ORDERED:
        raise TooMany("states", MOST_ORDERED)
    moves = move_tables(book)
    for order in all_orders(book.size):
        if is_harmless(book, moves, order, width):
            yield order


def first_order(book, width):
    """The first order for which the width is harmless, None if there is none."""
    for order in right_orders(book, width):
        return order
    return None


def check_things(book, things):
    """Raise InvalidThings unless this is a list of states and steps of such a book."""
    if not is_list(things):
        raise InvalidThings(None)
    for position, thing in enumerate(things):
        if not is_state(book.size, thing) and not is_step(book.letters, book.size, thing):
            raise InvalidThings(position)


def with_things(book, things):
    """The book with these things put in."""
    starts = [state for state in range(book.size) if state in book.starts or state in things]
    steps = {step: True for step in book.steps()}
    for thing in things:
        if not is_state(book.size, thing):
            steps[thing] = True
    return Book(book.letters, book.size, starts, book.ends, list(steps))


def fitting_states(book, marks, states):
    """The states that are not among these, and alone are within them."""
    mark = marks.of_set(states)
    return [state for state in range(book.size) if state not in states and marks.of_set([state]) & ~mark == 0]


def is_mended(book, things, covers, small):
    """Whether small sets are enough for the book with these things put in; it has these covers."""
    return family_terms(with_things(book, things), covers, small).is_enough()


def reads_more(marks, one, other):
    """Whether the one state reads all that the other one reads, and more."""
    most = marks.of_set([one])
    least = marks.of_set([other])
    return most != least and least & ~most == 0


def all_orders(size):
    """All orders of so many states, ascending."""
    found = [()]
    for _ in range(size):
        found = [order + (state,) for order in found for state in range(size) if state not in order]
    return found


def first_masks(order, width):
    """For each mask that of its first states in the order, as many as are held."""
    found = []
    for mask in range(1 << len(order)):
        bits = [1 << state for state in order if mask >> state & 1]
        found.append(sum(bits[:width]))
    return found


def is_harmless(book, moves, order, width):
    """Whether the list rule loses no row of the book; these are the tables of its moves."""
    firsts = first_masks(order, width)
    ends = mask_of(book.ends)
    starts = mask_of(book.starts)
    found = [(starts, firsts[starts])]
    seen = {(starts, firsts[starts]): True}
    at = 0
    while at < len(found):
        come, held = found[at]
        if come & ends != 0 and held & ends == 0:
            return False
        for table in list(moves.values()):
            behind = (table[come], firsts[table[held]])
            if behind not in seen:
                seen[behind] = True
                found.append(behind)
        at = at + 1
    return True
