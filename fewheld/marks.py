"""What all sets of a book read, told in few numbers."""

from fewheld.masks import mask_of, move_tables, union_table


class Marks:
    """A mark for each set of a book: sets are alike exactly if they have the same mark.

    Rows that are read by just the same states tell the same of all sets. So
    the first one of each such group of rows is enough; the mark of a set has
    a one for each of these rows that it reads.
    """

    def __init__(self, book):
        found = telling_rows(book)
        marks = [mask_of([place for place, (_, readers) in enumerate(found) if readers >> state & 1])
                 for state in range(book.size)]
        self._rows = [row for row, _ in found]
        self._marks = union_table(marks)

    def of_mask(self, mask):
        """The mark of the set with this mask."""
        return self._marks[mask]

    def of_set(self, states):
        """The mark of the set."""
        return self._marks[mask_of(states)]

    def parting(self, one, other):
        """The first row that just one of the sets reads, or None."""
        return self._first_row(self.of_set(one) ^ self.of_set(other))

    def missing(self, one, other):
        """The first row that the one set reads and the other one does not, or None."""
        return self._first_row(self.of_set(one) & ~self.of_set(other))

    def _first_row(self, mark):
        """The first row of the mark, or None if it has none."""
        if mark == 0:
            return None
        return self._rows[(mark & -mark).bit_length() - 1]


def telling_rows(book):
    """For each group of rows that just the same states read, the first one and the mask of these states, in order."""
    tables = move_tables(~book)
    found = []
    level = [("", mask_of(book.ends))]
    seen = {mask_of(book.ends): True}
    while level:
        found.extend(level)
        longer = []
        # A row is put together from its end, so for rows of one length the
        # letter that is put ahead matters most.
        for letter in book.letters:
            for row, readers in level:
                ahead = tables[letter][readers]
                if ahead not in seen:
                    seen[ahead] = True
                    longer.append((letter + row, ahead))
        level = longer
    return found
