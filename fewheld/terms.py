"""Families in which each set finds there what it wants: the greatest ones, and such that are given."""

from fewheld.crowds import masks_in


class Terms:
    """What a family keeps to: for several places at once it has a crowd of sets at each of them.

    - limits: for each place the crowd of the sets that may stand there.
    - wants: for each place a list of tuples (moves, place, choices): each set
      there wants that one of the choices behind what comes of it stands at the
      other place. (moves is a table of what comes of each mask, choices is one
      of crowds.)
    - begins: a list of tuples (place, choices): one of the choices stands there.
    """

    def __init__(self, limits, wants, begins):
        self._limits = limits
        self._wants = wants
        self._begins = begins

    def strike(self):
        """The crowds of the greatest family, and tuples (turn, place, mask, number of the want) of what is struck.

        In each turn all is struck at once that wants what did not stand there
        at the beginning of the turn; the number is that of its first such want.
        """
        left = {place: self._limits[place] for place in self._limits}
        struck = []
        turn = 0
        changed = left
        while changed:
            turn = turn + 1
            lacking = self._lacking(left, changed)
            for place, mask, _ in lacking:
                left[place] = left[place] - (1 << mask)
            struck.extend([(turn, place, mask, number) for place, mask, number in lacking])
            changed = {place: True for place, _, _ in lacking}
        return left, struck

    def greatest(self):
        """The crowds of the greatest family."""
        left, _ = self.strike()
        return left

    def is_enough(self):
        """Whether the greatest family has what is wanted at the beginning."""
        return self._is_begun(self.greatest())

    def is_kept_by(self, crowds):
        """Whether these crowds are a family that has what is wanted at the beginning."""
        return self.is_family(crowds) and self._is_begun(crowds)

    def is_family(self, crowds):
        """Whether these crowds are a family."""
        inside = [crowds[place] & ~self._limits[place] == 0 for place in crowds]
        return all(inside) and not self._lacking(crowds, crowds)

    def _is_begun(self, crowds):
        """Whether what is wanted at the beginning stands there."""
        return all([crowds[place] & choices != 0 for place, choices in self._begins])

    def _lacking(self, crowds, changed):
        """The tuples (place, mask, number of the first want) of all that wants what does not stand there.

        Only those are asked that want something at a place that has changed.
        """
        lacking = []
        for place, crowd in crowds.items():
            wants = self._wants[place]
            if any([towards in changed for _, towards, _ in wants]):
                numbers = [(mask, first_lacking(crowds, wants, mask)) for mask in masks_in(crowd)]
                lacking.extend([(place, mask, number) for mask, number in numbers if number is not None])
        return lacking


def first_lacking(crowds, wants, mask):
    """The number of the first want of the mask that is not met, or None."""
    for number, (moves, place, choices) in enumerate(wants):
        if choices[moves[mask]] & crowds[place] == 0:
            return number
    return None
