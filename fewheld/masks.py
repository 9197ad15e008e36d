"""Sets of states as integers, and tables of what is told of all sets at once."""


def mask_of(states):
    """The integer whose ones stand at these states."""
    return sum([1 << state for state in states])


def states_of(mask):
    """The states at which the integer has its ones, ascending."""
    return tuple([state for state in range(mask.bit_length()) if mask >> state & 1])


def union_table(parts):
    """For each mask the union of the parts at its ones."""
    table = [0]
    for part in parts:
        table = table + [union | part for union in table]
    return table


def move_tables(book):
    """For each letter the table of the masks that come of all masks by it."""
    return {letter: union_table([mask_of(book.comes([state], letter)) for state in range(book.size)])
            for letter in book.letters}
