"""Crowds: many sets of one book in one integer, which has a one at the mask of each set that is in it."""

from fewheld.masks import mask_of, states_of
from fewheld.states import set_order


def crowd_of(masks):
    """The crowd of these different masks."""
    return mask_of(masks)


def masks_in(crowd):
    """The masks in the crowd, ascending."""
    return states_of(crowd)


def sets_in(crowd):
    """The sets in the crowd, in order."""
    return sorted([states_of(mask) for mask in masks_in(crowd)], key=set_order)


def part_crowds(size):
    """For each mask the crowd of all its parts."""
    table = [1]
    for state in range(size):
        # With a further state each part is there as it was, and with the state.
        table = table + [crowd | crowd << (1 << state) for crowd in table]
    return table


def same_parts(size, keys):
    """For each mask the crowd of those of its parts that have the same key as it has."""
    crowds = {}
    for mask, key in enumerate(keys):
        crowds[key] = crowds.get(key, 0) | 1 << mask
    return [parts & crowds[key] for parts, key in zip(part_crowds(size), keys)]


def cost_table(prices):
    """For each mask the sum of the prices of its states."""
    table = [0]
    for price in prices:
        table = table + [cost + price for cost in table]
    return table


def cheap_crowd(costs, budget):
    """The crowd of the masks that cost at most so much."""
    return crowd_of([mask for mask, cost in enumerate(costs) if cost <= budget])


def small_crowd(size, most):
    """The crowd of the sets of at most so many states."""
    return cheap_crowd(cost_table([1] * size), most)


def meeting_crowd(size, states):
    """The crowd of the sets in which some of the states are."""
    mask = mask_of(states)
    return crowd_of([other for other in range(1 << size) if other & mask != 0])
