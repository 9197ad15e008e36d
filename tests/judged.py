"""A slow second opinion on claims and papers: the words of the document's table, one by one."""

import itertools

from fewheld.readers import ListRule
from tests.helpers import begun_by_hand, comes_by_hand, held_by_hand
from tests.slow import alike_parts, is_enough_by_hand, is_within_by_hand, marks_of, parts_of, sets_of


def is_list(value):
    """Whether the value is a list or a tuple."""
    return isinstance(value, (list, tuple))


def is_number(value, most=None):
    """Whether the value is a count, up to this most."""
    return isinstance(value, int) and not isinstance(value, bool) and value >= 0 and (most is None or value <= most)


def is_row(book, value):
    """Whether the value is a row over the book's letters."""
    return isinstance(value, str) and set(value) <= set(book.letters)


def is_set(book, value):
    """Whether the value is a set as it is told."""
    return isinstance(value, tuple) and all(is_number(p, book.size - 1) for p in value) and value in sets_of(book)


def is_pair(value):
    """Whether the value is a tuple of two."""
    return isinstance(value, tuple) and len(value) == 2


def windows_of(letters, d):
    """The windows."""
    rows = ["".join(row) for many in range(d + 1) for row in itertools.product(letters, repeat=many)]
    return [row if len(row) == d else row + "." for row in rows]


def seen_behind(letters, d, window, letter):
    """The windows that can be seen when the letter has come, none if it cannot come."""
    if d == 0:
        return [""]
    if not window.startswith(letter):
        return []
    return [other for other in windows_of(letters, d)
            if (window[1:] == other if "." in window else other[:-1] == window[1:])]


def reads(book, states, row):
    """Whether there is a run of the row to an end."""
    return bool(set(comes_by_hand(book, states, row)) & set(book.ends))


def meets(book, states):
    """Whether there is an end among the states."""
    return bool(set(states) & set(book.ends))


def good_behind(book, states, window, come):
    """Whether the pair of the states and the window is good behind what comes."""
    row = window.strip(".")
    one, other = comes_by_hand(book, states, row), comes_by_hand(book, come, row)
    return meets(book, one) == meets(book, other) if "." in window else marks_of(book)[one] == marks_of(book)[other]


def classes_of(book):
    """The marks of the classes, in the order of their first sets."""
    return list(dict.fromkeys(marks_of(book)[states] for states in sets_of(book)))


def useful_of(book):
    """The useful states."""
    comes = {p for _, states in book.coming() for p in states}
    return [p for p in sorted(comes) if marks_of(book)[(p,)] != marks_of(book)[()]]


def first_counts(book):
    """The list with 1 at each useful start."""
    return tuple(1 if p in book.starts and p in useful_of(book) else 0 for p in range(book.size))


def counts_behind(book, counts, letter):
    """The sums of the counts, at useful states."""
    useful = useful_of(book)
    return tuple(sum(counts[p] for p, a, to in book.steps() if (a, to) == (letter, q)) if q in useful else 0
                 for q in range(book.size))


def walk_of(book, rule):
    """The tuples (set, held) of all that comes and is held together."""
    found = [(book.starts, begun_by_hand(book, rule))]
    for states, held in found:
        for a in book.letters:
            behind = (comes_by_hand(book, states, a), held_by_hand(book, rule, held, a))
            if behind not in found:
                found.append(behind)
    return found


def is_harmless(book, order, width):
    """Whether the list rule loses no row."""
    return all(meets(book, held) or not meets(book, states) for states, held in walk_of(book, ListRule(order, width)))


def alike(book, one, other):
    """Whether the sets are alike."""
    return marks_of(book)[one] == marks_of(book)[other]


def paper_alike(book, one, other, value):
    """The number of the class of both sets."""
    return is_number(value, len(classes_of(book)) - 1) and all(
        classes_of(book)[value] == marks_of(book)[states] for states in (one, other))


def paper_parted(book, one, other, value):
    """A row that just one of the sets reads."""
    return is_row(book, value) and reads(book, one, value) != reads(book, other, value)


def paper_missing(book, one, other, value):
    """A row that the one set reads and the other one does not."""
    return is_row(book, value) and reads(book, one, value) and not reads(book, other, value)


def paper_enough(book, k, value):
    """A family within k that has a cover of the starts."""
    if not is_list(value) or not all(is_set(book, states) and len(states) <= k for states in value):
        return False
    if len(set(value)) != len(value):
        return False
    closed = all(alike_parts(book, comes_by_hand(book, states, a), value) for states in value for a in book.letters)
    return closed and bool(alike_parts(book, book.starts, value))


def paper_exhausted(book, k, value):
    """Sets with letters, each behind all of which one could be held by it, with all covers of the starts."""
    if not is_list(value) or not all(is_pair(entry) and is_set(book, entry[0]) and isinstance(entry[1], str)
                                     and entry[1] in list(book.letters) for entry in value):
        return False
    fits = [states for states in sets_of(book) if len(states) <= k]
    for at, (states, letter) in enumerate(value):
        ahead = [entry[0] for entry in value[:at]]
        if not set(alike_parts(book, comes_by_hand(book, states, letter), fits)) <= set(ahead):
            return False
    return set(alike_parts(book, book.starts, fits)) <= {states for states, _ in value}


def paper_harmless(book, order, width, value):
    """All that comes and is held, or more, with an end in what is held wherever one comes."""
    if not is_list(value) or not all(is_pair(entry) and is_set(book, entry[0]) and is_set(book, entry[1])
                                     and set(entry[1]) <= set(entry[0]) for entry in value):
        return False
    rule = ListRule(order, width)
    wants = [(book.starts, begun_by_hand(book, rule))]
    wants += [(comes_by_hand(book, states, a), held_by_hand(book, rule, held, a))
              for states, held in value for a in book.letters]
    return set(wants) <= set(value) and all(meets(book, held) or not meets(book, states) for states, held in value)


def paper_loses(book, order, width, value):
    """A lost row."""
    if not is_row(book, value):
        return False
    rule = ListRule(order, width)
    held = begun_by_hand(book, rule)
    for letter in value:
        held = held_by_hand(book, rule, held, letter)
    return reads(book, book.starts, value) and not meets(book, held)


def paper_ahead(book, k, d, value):
    """Pairs closed as an ahead family is."""
    seen = windows_of(book.letters, d)
    if not is_list(value) or not all(is_pair(pair) and is_set(book, pair[0]) and len(pair[0]) <= k
                                     and isinstance(pair[1], str) and pair[1] in seen for pair in value):
        return False
    there = set(value)

    def has(come, window):
        return any((part, window) in there and good_behind(book, part, window, come) for part in parts_of(come))

    closed = all(has(comes_by_hand(book, states, a), behind) for states, window in value for a in book.letters
                 for behind in seen_behind(book.letters, d, window, a))
    return closed and all(has(book.starts, window) for window in seen)


def paper_shown(one, other, k, value):
    """Pairs closed as a shown family is."""
    if not is_list(value) or not all(is_pair(pair) and is_number(pair[0], one.size - 1) and is_set(other, pair[1])
                                     and len(pair[1]) <= k for pair in value):
        return False
    there = set(value)
    if not all(meets(other, states) for state, states in value if state in one.ends):
        return False
    closed = all(any((q, part) in there for part in parts_of(comes_by_hand(other, states, a)))
                 for state, states in value for p, a, q in one.steps() if p == state)
    return closed and all(any((p, part) in there for part in parts_of(other.starts)) for p in one.starts)


def leads(book, state, row, goal):
    """Whether the row leads from the state to the goal."""
    return goal in comes_by_hand(book, [state], row)


def paper_doubling(book, value):
    """A doubling."""
    if not isinstance(value, tuple) or len(value) != 4 or not is_number(value[1], book.size - 1):
        return False
    before, state, lap, behind = value
    if not all(is_row(book, row) for row in (before, lap, behind)):
        return False
    many = {state: 1}
    for letter in lap:
        many = {q: sum(many.get(p, 0) for p, a, to in book.steps() if (a, to) == (letter, q)) for q in range(book.size)}
    return many[state] > 1 and state in comes_by_hand(book, book.starts, before) and reads(book, [state], behind)


def paper_degree(book, rises, value):
    """A chain of so many rises."""
    if not is_pair(value) or not is_list(value[0]) or not is_list(value[1]):
        return False
    rows, given = value
    if len(rows) != rises + 1 or len(given) != rises or not all(is_row(book, row) for row in rows):
        return False
    for rise in given:
        if not (isinstance(rise, tuple) and len(rise) == 3 and is_row(book, rise[1]) and rise[0] != rise[2]
                and is_number(rise[0], book.size - 1) and is_number(rise[2], book.size - 1)):
            return False
        p, row, q = rise
        if not (leads(book, p, row, p) and leads(book, p, row, q) and leads(book, q, row, q)):
            return False
    froms = [list(book.starts)] + [[q] for _, _, q in given]
    goals = [[p] for p, _, _ in given] + [list(book.ends)]
    return all(set(comes_by_hand(book, states, row)) & set(ends) for states, row, ends in zip(froms, rows, goals))


def paper_bounded(book, number, value):
    """Counts for all rows, or more, with no more at the ends."""
    if not is_list(value) or not all(is_list(counts) and len(counts) == book.size and
                                     all(is_number(count) for count in counts) for counts in value):
        return False
    there = {tuple(counts) for counts in value}
    wants = [first_counts(book)] + [counts_behind(book, counts, a) for counts in there for a in book.letters]
    return set(wants) <= there and all(sum(counts[p] for p in book.ends) <= number for counts in there)


PAPERS = {
    "alike": paper_alike,
    "parted": paper_parted,
    "missing": paper_missing,
    "enough": paper_enough,
    "exhausted": paper_exhausted,
    "harmless": paper_harmless,
    "loses": paper_loses,
    "ahead": paper_ahead,
    "shown": paper_shown,
    "doubling": paper_doubling,
    "degree": paper_degree,
    "bounded": paper_bounded,
}
# Whether claims are true, for those kinds of which this is told shortly.
TRUTHS = {
    "alike": alike,
    "parted": lambda book, one, other: not alike(book, one, other),
    "missing": lambda book, one, other: not is_within_by_hand(book, one, other),
    "enough": is_enough_by_hand,
    "exhausted": lambda book, k: not is_enough_by_hand(book, k),
    "harmless": is_harmless,
    "loses": lambda book, order, width: not is_harmless(book, order, width),
}


def is_paper_by_hand(claim, value):
    """Whether the value is a paper of the claim."""
    return PAPERS[claim[0]](*claim[1:], value)
