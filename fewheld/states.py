"""States, sets of them, steps and rooms: the parts that books are made of."""

from fewheld.errors import (InvalidLetter, InvalidOrder, InvalidRooms, InvalidSet, InvalidStates, InvalidStep,
                            InvalidSteps)
from fewheld.values import is_integer, is_list


def is_state(size, value):
    """Whether the value is a state of a book of this size."""
    return is_integer(value) and 0 <= value < size


def is_letter(letters, value):
    """Whether the value is one of the letters."""
    return isinstance(value, str) and len(value) == 1 and value in letters


def is_step(letters, size, value):
    """Whether the value is a step of a book over these letters, of this size."""
    if not isinstance(value, tuple) or len(value) != 3:
        return False
    before, letter, behind = value
    return is_state(size, before) and is_letter(letters, letter) and is_state(size, behind)


def is_room(letters, many, value):
    """Whether the value is one of so many rooms: (whether it ends, a room for each letter)."""
    if not isinstance(value, tuple) or len(value) != 2:
        return False
    ending, doors = value
    if not isinstance(ending, bool) or not isinstance(doors, tuple) or len(doors) != len(letters):
        return False
    return all([is_state(many, door) for door in doors])


def ascending(size, some):
    """The states that are told, as their ascending tuple."""
    return tuple([state for state in range(size) if state in some])


def set_order(states):
    """What sets are sorted by."""
    return (len(states), states)


def all_sets(size):
    """The sets of all states of a book of this size, in order."""
    found = [()]
    for state in range(size):
        found = found + [states + (state,) for states in found]
    return sorted(found, key=set_order)


def first_wrong(values, rights):
    """The position of the first value that is not right or stands there already, or None."""
    seen = {}
    for position, value in enumerate(values):
        # A value that is not right is not compared: it may be of any kind.
        if not rights[position] or value in seen:
            return position
        seen[value] = True
    return None


def wrong_state_at(size, values):
    """The position of the first value that is no state or stands there already, or None."""
    return first_wrong(values, [is_state(size, value) for value in values])


def is_set(size, value):
    """Whether the value is a list of different states."""
    return is_list(value) and wrong_state_at(size, value) is None


def is_told_set(size, value):
    """Whether the value is a set as it is told: the ascending tuple of its states."""
    return isinstance(value, tuple) and is_set(size, value) and value == ascending(size, value)


def is_order(size, value):
    """Whether the value is a list of all states, each once."""
    return is_set(size, value) and len(value) == size


def check_set(size, some):
    """Raise InvalidSet unless this is a list of different states."""
    if not is_set(size, some):
        raise InvalidSet(some)


def check_order(size, order):
    """Raise InvalidOrder unless this is a list of all states, each once."""
    if not is_order(size, order):
        raise InvalidOrder(order)


def check_letter(letters, letter):
    """Raise InvalidLetter unless this is one of the letters."""
    if not is_letter(letters, letter):
        raise InvalidLetter(letter)


def check_states(size, values):
    """Raise InvalidStates unless these are starts, or ends, of a book of this size."""
    if not is_list(values):
        raise InvalidStates(None)
    position = wrong_state_at(size, values)
    if position is not None:
        raise InvalidStates(position)


def check_step(letters, size, step):
    """Raise InvalidStep unless this is a step of such a book."""
    if not is_step(letters, size, step):
        raise InvalidStep(step)


def check_steps(letters, size, values):
    """Raise InvalidSteps unless these are the steps of a book."""
    if not is_list(values):
        raise InvalidSteps(None)
    position = first_wrong(values, [is_step(letters, size, value) for value in values])
    if position is not None:
        raise InvalidSteps(position)


def check_rooms(letters, most, rooms):
    """Raise InvalidRooms unless these are one to so many rooms that lead to each other."""
    if not is_list(rooms) or not 1 <= len(rooms) <= most:
        raise InvalidRooms(None)
    for position, room in enumerate(rooms):
        if not is_room(letters, len(rooms), room):
            raise InvalidRooms(position)
