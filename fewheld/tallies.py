"""Tallies: for each state of a book, how many runs of a row lead there from the starts."""

from math import gcd

from fewheld.books import Book

# In a book of seven states whose numbers are bounded, none is nearly so great.
NUMBER_BITS = 64


def useful_part(book):
    """The book without all that no reading goes through; rows have as many readings by it."""
    useful = book.useful()
    steps = [(before, letter, behind) for before, letter, behind in book.steps()
             if before in useful and behind in useful]
    return Book(book.letters, book.size, [state for state in book.starts if state in useful],
                [state for state in book.ends if state in useful], steps)


def first_tally(book):
    """The tally of the empty row."""
    return tuple([int(state in book.starts) for state in range(book.size)])


def sources_of(book):
    """For each letter, and each state, the states from which a step by the letter leads to the state."""
    sources = {letter: [[] for _ in range(book.size)] for letter in book.letters}
    for before, letter, behind in book.steps():
        sources[letter][behind].append(before)
    return sources


def tally_behind(sources, tally):
    """The tally behind a further letter; these are the sources for the letter."""
    return tuple([sum([tally[before] for before in befores]) for befores in sources])


def capped_behind(sources, tally, cap):
    """The same, with no number above the cap."""
    return tuple([min(number, cap) for number in tally_behind(sources, tally)])


def readings_of(book, tally):
    """The number of readings of a row with this tally."""
    return sum([tally[state] for state in book.ends])


def packed(tally):
    """The numbers of the tally in one integer, side by side."""
    return sum([number << (NUMBER_BITS * state) for state, number in enumerate(tally)])


def high_tallies(book):
    """The tuples (first row, tally) of all tallies that rise above each tally of an earlier row, in order of the rows.

    The book has useful states alone, and its numbers of readings are bounded.
    Where no number of a tally is greater than it is for an earlier row, the
    earlier row has as many readings at least, whatever is put behind both.
    """
    sources = sources_of(book)
    found = [("", first_tally(book))]
    # A bit above each number shows whether it is as great as the other one.
    guard = packed([1 << (NUMBER_BITS - 1)] * book.size)
    kept = [packed(first_tally(book)) + guard]
    at = 0
    while at < len(found):
        row, tally = found[at]
        for letter in book.letters:
            behind = tally_behind(sources[letter], tally)
            number = packed(behind)
            if not any([(other - number) & guard == guard for other in kept]):
                found.append((row + letter, behind))
                kept.append(number + guard)
        at = at + 1
    return found


def row_of_unlike(one, other):
    """The first row that has unlike numbers of readings by the two books, or None.

    A row whose tallies are a sum of multiples of those of rows ahead of it is
    not the first such row, and no row that begins with it is: what is put
    behind it could be put behind those rows, too. So few rows are left.
    """
    ones = sources_of(one)
    others = sources_of(other)
    found = [("", first_tally(one), first_tally(other))]
    basis = []
    at = 0
    while at < len(found):
        row, tally, beside = found[at]
        rest = reduced(basis, tally + beside)
        if any(rest):
            if readings_of(one, tally) != readings_of(other, beside):
                return row
            basis.append(rest)
            for letter in one.letters:
                found.append((row + letter, tally_behind(ones[letter], tally), tally_behind(others[letter], beside)))
        at = at + 1
    return None


def reduced(basis, numbers):
    """What is left of the numbers if multiples of those of the basis are taken away; zeros if all is taken."""
    rest = list(numbers)
    for taken in basis:
        rest = cleared(rest, taken)
    return rest


def cleared(numbers, taken):
    """The numbers, made zero where the taken ones begin, and without a common divisor."""
    place = [number != 0 for number in taken].index(True)
    if numbers[place] == 0:
        return numbers
    rest = [number * taken[place] - other * numbers[place] for number, other in zip(numbers, taken)]
    divisor = 0
    for number in rest:
        divisor = gcd(divisor, number)
    return [number // max(divisor, 1) for number in rest]
