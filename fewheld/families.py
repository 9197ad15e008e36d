"""How much must be held at once so that no row is lost: families of sets, budgets, plans, ranks."""

from fewheld.books import check_book
from fewheld.crowds import cheap_crowd, cost_table, crowd_of, same_parts, sets_in
from fewheld.errors import InvalidPrices, NotEnough
from fewheld.marks import Marks
from fewheld.masks import mask_of, move_tables, states_of
from fewheld.readers import Plan
from fewheld.search import least_right, moves_along
from fewheld.states import check_letter, check_set, is_told_set, set_order
from fewheld.terms import Terms
from fewheld.values import check_count, is_integer, is_list

MOST_PRICE = 100
# The sets of a family that is held by a budget all stand at one place.
PLACE = 0


def cost(book, some, prices=None):
    """What the set costs."""
    check_book(book)
    check_set(book.size, some)
    check_prices(book, prices)
    return costs_of(book, prices)[mask_of(some)]


def family(book, budget, prices=None):
    """The greatest family within the budget, a list of sets in order."""
    check_budget(book, budget, prices)
    return sets_in(greatest_crowd(book, cover_crowds(book), fitting_crowd(book, budget, prices)))


def is_enough(book, budget, prices=None):
    """Whether the budget is enough."""
    check_budget(book, budget, prices)
    return family_terms(book, cover_crowds(book), fitting_crowd(book, budget, prices)).is_enough()


def least_budget(book, prices=None):
    """The least budget that is enough."""
    check_book(book)
    check_prices(book, prices)
    covers = cover_crowds(book)
    costs = costs_of(book, prices)
    # A budget between two costs lets in just what the lower one lets in.
    budgets = sorted(set(costs))
    at = least_right(len(budgets) - 1,
                     lambda place: family_terms(book, covers, cheap_crowd(costs, budgets[place])).is_enough())
    return budgets[at]


def held_width(book):
    """How many states must be held at once, at the worst, by a reader that loses no row."""
    return least_budget(book)


def first_choices(book, budget, prices=None):
    """The list of the sets of the greatest family that can be held at the beginning, in order."""
    check_budget(book, budget, prices)
    covers = cover_crowds(book)
    return sets_in(covers[mask_of(book.starts)] & greatest_crowd(book, covers, fitting_crowd(book, budget, prices)))


def choices(book, budget, some, letter, prices=None):
    """The list of the sets of the greatest family that can be held behind the set by the letter, in order."""
    check_book(book)
    check_count(budget)
    check_set(book.size, some)
    check_letter(book.letters, letter)
    check_prices(book, prices)
    covers = cover_crowds(book)
    left = greatest_crowd(book, covers, fitting_crowd(book, budget, prices))
    return sets_in(covers[mask_of(book.comes(some, letter))] & left)


def needed(book, budget, some, letter, prices=None):
    """The set of the states that are in all choices behind the set by the letter, None if there are no choices."""
    found = choices(book, budget, some, letter, prices)
    if not found:
        return None
    return tuple([state for state in found[0] if all([state in states for states in found])])


def plan_for(book, budget, prices=None):
    """The plan of the budget."""
    check_budget(book, budget, prices)
    covers = cover_crowds(book)
    left = greatest_crowd(book, covers, fitting_crowd(book, budget, prices))
    begins = sets_in(covers[mask_of(book.starts)] & left)
    if not begins:
        raise NotEnough(budget)
    table = moves_along(book.letters, begins[0], lambda states, letter: sets_in(
        covers[mask_of(book.comes(states, letter))] & left)[0])
    return Plan(begins[0], table)


def struck(book, budget, prices=None):
    """The list of tuples (rank, set, letter) of all struck sets, by rank, then in order of the sets."""
    check_budget(book, budget, prices)
    return struck_sets(book, cover_crowds(book), fitting_crowd(book, budget, prices))


def exhausted_in(book, budget, prices=None):
    """In how many letters the budget is exhausted, None if it is enough."""
    check_budget(book, budget, prices)
    covers = cover_crowds(book)
    fits = fitting_crowd(book, budget, prices)
    if family_terms(book, covers, fits).is_enough():
        return None
    begins = sets_in(covers[mask_of(book.starts)] & fits)
    ranks = [rank for rank, states, _ in struck_sets(book, covers, fits) if states in begins]
    return max(ranks, default=0)


def is_family(book, budget, value, prices=None):
    """Whether the value is a list of different sets, as they are told, that are a family within the budget."""
    check_budget(book, budget, prices)
    crowd = told_crowd(book, value)
    if crowd is None:
        return False
    return family_terms(book, cover_crowds(book), fitting_crowd(book, budget, prices)).is_family({PLACE: crowd})


def check_prices(book, prices):
    """Raise InvalidPrices unless this is None or a list of a price for each state."""
    if prices is None:
        return
    if not is_list(prices) or len(prices) != book.size:
        raise InvalidPrices(None)
    for position, price in enumerate(prices):
        if not is_integer(price) or not 1 <= price <= MOST_PRICE:
            raise InvalidPrices(position)


def check_budget(book, budget, prices):
    """Raise an error unless these are a book, a budget and prices."""
    check_book(book)
    check_count(budget)
    check_prices(book, prices)


def costs_of(book, prices):
    """For each mask what it costs."""
    return cost_table([1] * book.size if prices is None else prices)


def fitting_crowd(book, budget, prices):
    """The crowd of the sets that fit into the budget."""
    return cheap_crowd(costs_of(book, prices), budget)


def cover_crowds(book):
    """For each mask the crowd of its covers."""
    marks = Marks(book)
    return same_parts(book.size, [marks.of_mask(mask) for mask in range(1 << book.size)])


def family_terms(book, covers, fits):
    """What families of sets of the crowd keep to; these are the crowds of the book's covers."""
    moves = move_tables(book)
    wants = [(moves[letter], PLACE, covers) for letter in book.letters]
    return Terms({PLACE: fits}, {PLACE: wants}, [(PLACE, covers[mask_of(book.starts)])])


def greatest_crowd(book, covers, fits):
    """The crowd of the greatest family of sets of the crowd."""
    return family_terms(book, covers, fits).greatest()[PLACE]


def struck_sets(book, covers, fits):
    """The list of tuples (rank, set, letter) of what is struck of the crowd, by rank, then in order of the sets."""
    _, found = family_terms(book, covers, fits).strike()
    told = [(rank, states_of(mask), book.letters[number]) for rank, _, mask, number in found]
    return sorted(told, key=struck_order)


def struck_order(entry):
    """What tuples (rank, set, letter) are sorted by."""
    rank, states, _ = entry
    return (rank, set_order(states))


def told_crowd(book, value):
    """The crowd of the sets of the value, if it is a list of different sets as they are told, otherwise None."""
    if not is_list(value) or not all([is_told_set(book.size, states) for states in value]):
        return None
    masks = [mask_of(states) for states in value]
    return crowd_of(masks) if len(set(masks)) == len(masks) else None
