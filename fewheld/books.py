"""Books of rules, and how rows are read by them."""

from fewheld.errors import InvalidBook, InvalidSize, OtherLetters, TooMany
from fewheld.rows import check_letters, check_row, is_over
from fewheld.search import found_along
from fewheld.states import all_sets, ascending, check_rooms, check_set, check_states, check_step, check_steps
from fewheld.values import is_integer


class Book:
    """A book of rules; it does not change."""

    MOST_STATES = 7

    def __init__(self, letters, size, starts=(), ends=(), steps=()):
        check_letters(letters)
        if not is_integer(size) or not 1 <= size <= Book.MOST_STATES:
            raise InvalidSize(size)
        check_states(size, starts)
        check_states(size, ends)
        check_steps(letters, size, steps)
        # All that is kept is made anew, of plain strings and integers: what
        # was passed may be changed later, or be of a class derived from these.
        self._letters = "".join(list(letters))
        self._size = int(size)
        self._starts = ascending(self._size, starts)
        self._ends = ascending(self._size, ends)
        self._leads = leads_of(self._letters, self._size, steps)
        self._steps = steps_of(self._leads)

    @property
    def letters(self):
        """The letters, as one string."""
        return self._letters

    @property
    def size(self):
        """The number of the states."""
        return self._size

    @property
    def starts(self):
        """The set of the starts."""
        return self._starts

    @property
    def ends(self):
        """The set of the ends."""
        return self._ends

    def steps(self):
        """The ascending list of the steps."""
        return list(self._steps)

    def __len__(self):
        return len(self._steps)

    def __contains__(self, x):
        return is_over(self._letters, x) and self._reads(self._starts, x)

    def __call__(self, row):
        """What comes of the starts by the row."""
        check_row(self._letters, row)
        return self._behind(self._starts, row)

    def __eq__(self, other):
        return (isinstance(other, Book) and self._letters == other._letters and self._size == other._size
                and self._starts == other._starts and self._ends == other._ends and self._steps == other._steps)

    def __repr__(self):
        return f"Book({self._letters!r}, {self._size}, {self._starts}, {self._ends}, {self._steps})"

    def comes(self, some, row):
        """What comes of the set by the row."""
        check_set(self._size, some)
        check_row(self._letters, row)
        return self._behind(some, row)

    def reads(self, some, row):
        """Whether the set reads the row."""
        check_set(self._size, some)
        check_row(self._letters, row)
        return self._reads(some, row)

    def runs(self, some, row):
        """Yield the runs of the row from the set whose last state is an end, ascending."""
        check_set(self._size, some)
        check_row(self._letters, row)
        # No run is begun that cannot be ended, for the dead ways may be far
        # more than those that lead to an end.
        readers = self._readers_along(row)
        begun = [(state,) for state in ascending(self._size, some)[::-1] if state in readers[0]]
        while begun:
            run = begun.pop()
            many = len(run)
            if many > len(row):
                yield run
            else:
                onward = self._leads[(run[-1], row[many - 1])]
                begun.extend([run + (state,) for state in onward[::-1] if state in readers[many]])

    def readings(self, row):
        """Yield the readings of the row, ascending."""
        yield from self.runs(self._starts, row)

    def __add__(self, other):
        check_step(self._letters, self._size, other)
        return self._with_steps([*self._other_steps(other), other])

    def __sub__(self, other):
        check_step(self._letters, self._size, other)
        return self._with_steps(self._other_steps(other))

    def with_starts(self, some):
        """The book with these starts."""
        check_set(self._size, some)
        return Book(self._letters, self._size, some, self._ends, self._steps)

    def with_ends(self, some):
        """The book with these ends."""
        check_set(self._size, some)
        return Book(self._letters, self._size, self._starts, some, self._steps)

    def __or__(self, other):
        check_book(other)
        check_same_letters(self, other)
        size = self._size + other.size
        if size > Book.MOST_STATES:
            raise TooMany("states", Book.MOST_STATES)
        starts = self._starts + moved_states(other.starts, self._size)
        ends = self._ends + moved_states(other.ends, self._size)
        return Book(self._letters, size, starts, ends, self._steps + moved_steps(other.steps(), self._size))

    def __and__(self, other):
        check_book(other)
        check_same_letters(self, other)
        pairs = pairs_of(self, other)
        if len(pairs) > Book.MOST_STATES:
            raise TooMany("states", Book.MOST_STATES)
        return book_of_pairs(self, other, pairs)

    def __invert__(self):
        turned = [(behind, letter, before) for before, letter, behind in self._steps]
        return Book(self._letters, self._size, self._ends, self._starts, turned)

    def __rrshift__(self, other):
        check_row(self._letters, other)
        return self.with_starts(self._behind(self._starts, other))

    def __lshift__(self, other):
        check_row(self._letters, other)
        return self.with_ends(self._readers_along(other)[0])

    def live(self):
        """The set of the live states."""
        # A state reads some row exactly if it comes in the book turned about.
        turned = ~self
        return turned._all_coming()

    def useful(self):
        """The set of the useful states."""
        coming = self._all_coming()
        return tuple([state for state in self.live() if state in coming])

    def sets(self):
        """Yield all sets of states, in order."""
        yield from all_sets(self._size)

    def coming(self):
        """The tuples (first row, set) of all sets that come in the book, in the order of the rows."""
        return found_along(self._letters, self._starts, lambda states, letter: self._onward(states, letter))

    @staticmethod
    def of_rooms(letters, rooms):
        """The book whose states are the rooms, with the room 0 as start."""
        check_letters(letters)
        check_rooms(letters, Book.MOST_STATES, rooms)
        ends = [room for room, (ending, _) in enumerate(rooms) if ending]
        steps = [(room, letter, door)
                 for room, (_, doors) in enumerate(rooms) for letter, door in zip(letters, doors)]
        return Book(letters, len(rooms), [0], ends, steps)

    def _with_steps(self, steps):
        """The book with these steps in the place of its own."""
        return Book(self._letters, self._size, self._starts, self._ends, steps)

    def _other_steps(self, step):
        """All steps but this one."""
        return [other for other in self._steps if other != step]

    def _onward(self, states, letter):
        """What comes of the states by the letter."""
        return tuple(sorted({behind for state in states for behind in self._leads[(state, letter)]}))

    def _behind(self, states, row):
        """What comes of the states by the row."""
        behind = ascending(self._size, states)
        for letter in row:
            behind = self._onward(behind, letter)
        return behind

    def _reads(self, states, row):
        """Whether the states read the row."""
        return any([state in self._ends for state in self._behind(states, row)])

    def _ahead(self, states, letter):
        """The states from which a step by the letter leads to one of these."""
        return tuple([state for state in range(self._size)
                      if any([behind in states for behind in self._leads[(state, letter)]])])

    def _readers_along(self, row):
        """For each position of the row, and behind it, the states that read the rest of it."""
        readers = [self._ends]
        for letter in row[::-1]:
            readers.append(self._ahead(readers[-1], letter))
        return readers[::-1]

    def _all_coming(self):
        """All states that are in a set that comes in the book."""
        return tuple(sorted({state for _, states in self.coming() for state in states}))


def check_book(value):
    """Raise InvalidBook unless this is a book."""
    if not isinstance(value, Book):
        raise InvalidBook(value)


def check_same_letters(one, other):
    """Raise OtherLetters unless the two books are over the same letters."""
    if one.letters != other.letters:
        raise OtherLetters(one.letters, other.letters)


def leads_of(letters, size, steps):
    """The states to which a step leads, for each tuple (state, letter)."""
    given = {step: True for step in steps}
    return {(before, letter): tuple([behind for behind in range(size) if (before, letter, behind) in given])
            for before in range(size) for letter in letters}


def steps_of(leads):
    """The ascending list of the steps."""
    return [(before, letter, behind) for before, letter in leads for behind in leads[(before, letter)]]


def moved_states(states, many):
    """The states with numbers that are so much greater."""
    return tuple([state + many for state in states])


def moved_steps(steps, many):
    """The steps with states whose numbers are so much greater."""
    return [(before + many, letter, behind + many) for before, letter, behind in steps]


def pair_leads(one, other, pair, letter):
    """The pairs to which the states of the pair lead by the letter, ascending."""
    state, beside = pair
    return [(behind, next_to) for behind in one.comes([state], letter) for next_to in other.comes([beside], letter)]


def pairs_of(one, other):
    """The pairs of states that come of the pairs of starts, in the sequence in which they are found."""
    found = [(state, beside) for state in one.starts for beside in other.starts]
    at = 0
    while at < len(found):
        for letter in one.letters:
            fresh = [pair for pair in pair_leads(one, other, found[at], letter) if pair not in found]
            found.extend(fresh)
        at = at + 1
    return found


def book_of_pairs(one, other, pairs):
    """The book whose states are these pairs, in their sequence."""
    if not pairs:
        return Book(one.letters, 1)
    starts = [pairs.index((state, beside)) for state in one.starts for beside in other.starts]
    ends = [place for place, (state, beside) in enumerate(pairs) if state in one.ends and beside in other.ends]
    steps = [(place, letter, pairs.index(behind)) for place, pair in enumerate(pairs)
             for letter in one.letters for behind in pair_leads(one, other, pair, letter)]
    return Book(one.letters, len(pairs), starts, ends, steps)
