"""Readers, the rules that tell what they hold, and what is lost by a rule."""

from fewheld.books import Book, check_book
from fewheld.errors import InvalidOrder, InvalidRule, InvalidTable, NothingToTake, OtherSize
from fewheld.marks import Marks
from fewheld.rows import ALPHABET, check_row
from fewheld.search import first_row, found_along, moves_along
from fewheld.states import ascending, check_letter, check_order, check_set, is_letter, is_order, is_set, is_told_set
from fewheld.values import check_count


class Rule:
    """What tells what a reader holds: a ListRule or a Plan."""

    def begins(self, book):
        """What is held at the beginning."""
        raise NotImplementedError("told by a ListRule or a Plan")

    def holds(self, book, some, letter):
        """What is held behind the letter if the set was held."""
        raise NotImplementedError("told by a ListRule or a Plan")


class ListRule(Rule):
    """The rule that holds the first few states in an order."""

    def __init__(self, order, width):
        check_any_order(order)
        check_count(width)
        self._order = tuple([int(state) for state in order])
        self._width = int(width)

    @property
    def order(self):
        """The order, as a tuple."""
        return self._order

    @property
    def width(self):
        """How many states are held at most."""
        return self._width

    def begins(self, book):
        """What is held at the beginning."""
        check_book(book)
        check_sizes(book, [self])
        return self._first(book.starts)

    def holds(self, book, some, letter):
        """What is held behind the letter if the set was held."""
        check_holding(book, some, letter)
        check_sizes(book, [self])
        return self._first(book.comes(some, letter))

    def __call__(self, some):
        """The first states of the set, in this order, as many as are held."""
        check_set(len(self._order), some)
        return self._first(some)

    def __eq__(self, other):
        return isinstance(other, ListRule) and self._order == other._order and self._width == other._width

    def __repr__(self):
        return f"ListRule({self._order}, {self._width})"

    def _first(self, states):
        """The first of these states, in this order, as many as are held."""
        return ascending(len(self._order), [state for state in self._order if state in states][:self._width])


class Plan(Rule):
    """The rule that looks up what to hold in a table."""

    def __init__(self, begin, table):
        check_set(Book.MOST_STATES, begin)
        check_table(table)
        self._begin = ascending(Book.MOST_STATES, begin)
        self._table = plain_table(table)

    @property
    def begin(self):
        """The set of what is held at the beginning, as far as it is among the starts."""
        return self._begin

    def table(self):
        """What is held for each tuple (set, letter) of what was held and the letter."""
        return {key: self._table[key] for key in self._table}

    def begins(self, book):
        """What is held at the beginning."""
        check_book(book)
        return tuple([state for state in self._begin if state in book.starts])

    def holds(self, book, some, letter):
        """What is held behind the letter if the set was held."""
        check_holding(book, some, letter)
        come = book.comes(some, letter)
        told = self._table.get((ascending(book.size, some), letter), ())
        return tuple([state for state in told if state in come])

    def __eq__(self, other):
        return isinstance(other, Plan) and self._begin == other._begin and self._table == other._table


class Reader:
    """What goes along a row, and holds some of what comes, as a rule tells."""

    def __init__(self, book, rule):
        check_book_and_rules(book, [rule])
        self._book = book
        self._rule = rule
        self._row = ""
        # What comes and what is held behind each letter, and ahead of all.
        self._track = track_by(book, rule, "")
        # A copy of what the reader was when the trial began that it is in.
        self._before = None

    @property
    def book(self):
        """The book."""
        return self._book

    @property
    def row(self):
        """The letters so far."""
        return self._row

    @property
    def held(self):
        """What is held."""
        return self._track[-1][1]

    @property
    def whole(self):
        """What comes of the starts by the letters so far."""
        return self._track[-1][0]

    @property
    def at_end(self):
        """Whether there is an end in what is held."""
        return has_end(self._book, self._track[-1][1])

    @property
    def rule(self):
        """The rule; if another one is assigned, the letters so far are read anew by it."""
        return self._rule

    @rule.setter
    def rule(self, value):
        self.set_rule(value)

    def set_rule(self, rule):
        """Take this rule, and read the letters so far anew by it."""
        check_book_and_rules(self._book, [rule])
        self._track = track_by(self._book, rule, self._row)
        self._rule = rule

    def __len__(self):
        return len(self._row)

    def __iadd__(self, other):
        check_row(self._book.letters, other)
        self._track = self._track + track_behind(self._book, self._rule, self._track[-1], other)
        self._row = self._row + "".join(list(other))
        return self

    def __isub__(self, other):
        check_count(other)
        if other > len(self._row):
            raise NothingToTake()
        left = len(self._row) - other
        self._track = self._track[:left + 1]
        self._row = self._row[:left]
        return self

    def missing(self):
        """The first row that `whole` reads and `held` does not, None if there is none."""
        return Marks(self._book).missing(self.whole, self.held)

    def copy(self):
        """Another reader that is where this one is, and goes its own way."""
        made = Reader(self._book, self._rule)
        made._row = self._row
        made._track = self._track
        return made

    def trial(self):
        """A context manager that gives the reader, and takes back what happens to it inside."""
        return self

    def __enter__(self):
        before = self.copy()
        before._before = self._before
        self._before = before
        return self

    def __exit__(self, kind, value, trace):
        self._rule = self._before._rule
        self._row = self._before._row
        self._track = self._before._track
        self._before = self._before._before

    def tried_by(self, deed):
        """What the deed returns that is called with the reader, within a trial."""
        with self.trial():
            return deed(self)


def walk(book, rule):
    """The tuples (first row, set, held) of all that comes and is held together, in the order of the rows."""
    check_book_and_rules(book, [rule])
    return [(row, states, held) for row, (states, held) in pairs_along(book, rule)]


def lost_row(book, rule):
    """The first row that the rule loses, None if it loses none."""
    check_book_and_rules(book, [rule])
    return first_row(pairs_along(book, rule), lambda pair: has_end(book, pair[0]) and not has_end(book, pair[1]))


def most_held(book, rule):
    """The greatest number of states that the rule holds."""
    check_book_and_rules(book, [rule])
    return max([len(held) for _, (_, held) in pairs_along(book, rule)])


def harmless_widths(book, order):
    """The ascending list of the harmless widths, from 0 to the size of the book."""
    check_book(book)
    check_order(book.size, order)
    return [width for width in range(book.size + 1) if lost_row(book, ListRule(order, width)) is None]


def lost_alone(book, one, other):
    """The first row that the one rule loses and the other one does not, None if there is none."""
    check_book_and_rules(book, [one, other])
    ones = held_moves(book, one)
    others = held_moves(book, other)
    # What is held is among what comes. So a row that the other rule keeps is
    # one that the book reads, and what comes need not be asked.
    found = found_along(book.letters, (one.begins(book), other.begins(book)),
                        lambda pair, letter: (ones[(pair[0], letter)], others[(pair[1], letter)]))
    return first_row(found, lambda pair: not has_end(book, pair[0]) and has_end(book, pair[1]))


def check_any_order(order):
    """Raise InvalidOrder unless this is an order of the states of some book."""
    if not any([is_order(size, order) for size in range(1, Book.MOST_STATES + 1)]):
        raise InvalidOrder(order)


def check_table(table):
    """Raise InvalidTable unless this is a table of a plan."""
    if not isinstance(table, dict):
        raise InvalidTable(None)
    for key, held in table.items():
        if not is_key(key) or not is_set(Book.MOST_STATES, held):
            raise InvalidTable(key)


def is_key(value):
    """Whether the value is a tuple (ascending set, letter), as a table of a plan has it."""
    if not isinstance(value, tuple) or len(value) != 2:
        return False
    states, letter = value
    return is_told_set(Book.MOST_STATES, states) and is_letter(ALPHABET, letter)


def plain_table(table):
    """The table made anew, of plain strings and ascending sets, with its keys sorted."""
    plain = {(ascending(Book.MOST_STATES, states), "".join(list(letter))): ascending(Book.MOST_STATES, held)
             for (states, letter), held in table.items()}
    return {key: plain[key] for key in sorted(plain)}


def check_rule(value):
    """Raise InvalidRule unless this is a rule."""
    if not isinstance(value, Rule):
        raise InvalidRule(value)


def check_sizes(book, rules):
    """Raise OtherSize for the first list rule that orders another number of states than the book has."""
    for rule in rules:
        if isinstance(rule, ListRule) and len(rule.order) != book.size:
            raise OtherSize(book.size, len(rule.order))


def check_book_and_rules(book, rules):
    """Raise an error unless these are a book and rules that meet it."""
    check_book(book)
    for rule in rules:
        check_rule(rule)
    check_sizes(book, rules)


def check_holding(book, some, letter):
    """Raise an error unless these are a book, a set and a letter of it."""
    check_book(book)
    check_set(book.size, some)
    check_letter(book.letters, letter)


def has_end(book, states):
    """Whether there is an end among the states."""
    return any([state in book.ends for state in states])


def track_by(book, rule, row):
    """What comes and what is held by the rule, at the beginning and behind each letter of the row."""
    begun = (book.starts, rule.begins(book))
    return [begun] + track_behind(book, rule, begun, row)


def track_behind(book, rule, begun, row):
    """What comes and what is held behind each letter of the row, if these two were ahead of it."""
    track = []
    # Of a long row the same moves are asked again and again.
    moves = {}
    here = begun
    for letter in row:
        if (here, letter) not in moves:
            moves[(here, letter)] = (book.comes(here[0], letter), rule.holds(book, here[1], letter))
        here = moves[(here, letter)]
        track.append(here)
    return track


def held_moves(book, rule):
    """What the rule holds behind each letter, for all that it comes to hold."""
    return moves_along(book.letters, rule.begins(book), lambda held, letter: rule.holds(book, held, letter))


def pairs_along(book, rule):
    """The tuples (first row, (set, held)) of all that comes and is held together, in the order of the rows."""
    ways = moves_along(book.letters, book.starts, lambda states, letter: book.comes(states, letter))
    helds = held_moves(book, rule)
    return found_along(book.letters, (book.starts, rule.begins(book)),
                       lambda pair, letter: (ways[(pair[0], letter)], helds[(pair[1], letter)]))
