"""What lets the numbers of readings grow: doublings, rises and chains, in books that have useful parts alone."""

from fewheld.books import leads_of
from fewheld.search import ways_from


def state_ways(book):
    """For each state a shortest row to each state to which it leads."""
    leads = leads_of(book.letters, book.size, book.steps())
    return [ways_from(book.letters, state, lambda place, letter: leads[(place, letter)])
            for state in range(book.size)]


def pair_ways(book, pair):
    """A shortest row for each pair of states to which the two of the pair lead by one row."""
    leads = leads_of(book.letters, book.size, book.steps())
    return ways_from(book.letters, pair, lambda here, letter: [
        (behind, beside) for behind in leads[(here[0], letter)] for beside in leads[(here[1], letter)]])


def fork_of(book):
    """The tuple (state, pair, row, row) of a doubling, or None.

    By the first row the state leads to both of the pair, which are different,
    and by the second one both of them lead back to the state.
    """
    for state in range(book.size):
        there = pair_ways(book, (state, state))
        back = pair_ways(~book, (state, state))
        for pair in there:
            if pair[0] != pair[1] and pair in back:
                return state, pair, there[pair], back[pair][::-1]
    return None


def way_in(book, ways, state):
    """A row that leads from a start to the state."""
    return [ways[start][state] for start in book.starts if state in ways[start]][0]


def way_out(book, ways, state):
    """A row that leads from the state to an end."""
    return [ways[state][end] for end in book.ends if end in ways[state]][0]


def doubling_at(book, fork):
    """The doubling of the fork."""
    state, _, there, back = fork
    ways = state_ways(book)
    return way_in(book, ways, state), state, there + back, way_out(book, ways, state)


def chain_at(book, fork, many):
    """A chain of so many rises, one at least: of the two states of the fork's pair each leads to both by one row."""
    state, (one, other), there, back = fork
    ways = state_ways(book)
    lap = back + there
    rows = [way_in(book, ways, state) + there] + [lap] * (many - 1) + [back + way_out(book, ways, state)]
    return rows, [(one, lap, other)] * many


def rise_row(book, ways, start, goal):
    """A row that leads from the start to the start, from the start to the goal, and from the goal to the goal."""
    leads = leads_of(book.letters, book.size, book.steps())

    def onward(here, letter):
        # Only those are followed that can still come to what they are to reach.
        return [(low, between, high) for low in leads[(here[0], letter)] if start in ways[low]
                for between in leads[(here[1], letter)] if goal in ways[between]
                for high in leads[(here[2], letter)] if goal in ways[high]]

    found = ways_from(book.letters, (start, start, goal), onward)
    return found.get((start, goal, goal))


def rises_of(book, ways):
    """A rise for each two states that have one, in a book without a doubling."""
    rows = [(start, rise_row(book, ways, start, goal), goal)
            for start in range(book.size) for goal in range(book.size) if start != goal and goal in ways[start]]
    return [rise for rise in rows if rise[1] is not None]


def risen(ways, rises, chains):
    """The chains with one more rise; each stands under the state to which it has come."""
    longer = {}
    for state, (rows, done) in chains.items():
        for rise in rises:
            if rise[0] in ways[state] and rise[2] not in longer:
                longer[rise[2]] = (rows + [ways[state][rise[0]]], done + [rise])
    return longer


def ended_chain(book, ways, chains):
    """One of the chains, led to an end, or None."""
    for state, (rows, done) in chains.items():
        for end in book.ends:
            if end in ways[state]:
                return rows + [ways[state][end]], done
    return None


def begun_chains(book):
    """The chains without a row that are to be led on, each under the start from which it goes."""
    return {start: ([], []) for start in book.starts}


def chain_without_rises(book):
    """A chain of no rises, or None."""
    return ended_chain(book, state_ways(book), begun_chains(book))


def chains_by_rises(book, most):
    """For each number of rises up to the most: the chains with so many, in a book without a doubling."""
    ways = state_ways(book)
    rises = rises_of(book, ways)
    found = [begun_chains(book)]
    for _ in range(most):
        found.append(risen(ways, rises, found[-1]))
    return found


def chain_of_rises(book, many):
    """A chain of so many rises in a book without a doubling, or None."""
    return ended_chain(book, state_ways(book), chains_by_rises(book, many)[many])


def most_rises(book, most):
    """The greatest number of rises, but at most so many, of a chain in a book without a doubling."""
    return max([many for many, chains in enumerate(chains_by_rises(book, most)) if many == 0 or chains])
