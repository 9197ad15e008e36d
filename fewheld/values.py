"""The plain kinds of values that all modules ask for."""

from fewheld.errors import InvalidCount


def is_integer(value):
    """Whether the value is an int, but neither True nor False."""
    return isinstance(value, int) and not isinstance(value, bool)


def is_list(value):
    """Whether the value is a list, or a tuple in the place of one."""
    return isinstance(value, (list, tuple))


def is_count(value):
    """Whether the value is an integer that is at least 0."""
    return is_integer(value) and value >= 0


def check_count(value):
    """Raise InvalidCount unless the value is an integer that is at least 0."""
    if not is_count(value):
        raise InvalidCount(value)
