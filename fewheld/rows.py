"""Letters, rows over them, and the order of the rows."""

from fewheld.errors import InvalidLetters, InvalidRow, TooMany
from fewheld.values import check_count

ALPHABET = "abcdefghijklmnopqrstuvwxyz"
MOST_LETTERS = 4
LONGEST_ROW = 200


def is_letters(value):
    """Whether the value is one to four different letters in ascending order."""
    if not isinstance(value, str) or not 1 <= len(value) <= MOST_LETTERS:
        return False
    if not is_over(ALPHABET, value):
        return False
    return all([one < other for one, other in zip(value, value[1:])])


def is_row(letters, value):
    """Whether the value is a row over the letters."""
    check_letters(letters)
    return is_over(letters, value)


def is_ahead(letters, row, other):
    """Whether the row stands ahead of the other one in the order of rows."""
    check_letters(letters)
    check_row(letters, row)
    check_row(letters, other)
    return (len(row), row) < (len(other), other)


def rows(letters, most):
    """Yield all rows of at most so many letters, in order."""
    check_letters(letters)
    check_most(most)
    # One row is made at a time, for there may be far too many to keep.
    for number in range(rows_up_to(letters, most)):
        yield numbered_row(letters, number)


def many_rows(letters, most):
    """How many rows of at most so many letters there are."""
    check_letters(letters)
    check_most(most)
    return rows_up_to(letters, most)


def row_at(letters, number):
    """The row with this number."""
    check_letters(letters)
    check_count(number)
    # Over a single letter a row is as long as its number is great, so the
    # length is judged before the row is made.
    if number >= rows_up_to(letters, LONGEST_ROW):
        raise TooMany("letters", LONGEST_ROW)
    return numbered_row(letters, number)


def number_of(letters, row):
    """The number of the row."""
    check_letters(letters)
    check_row(letters, row)
    number = 0
    for letter in row:
        number = number * len(letters) + letters.index(letter) + 1
    return number


def is_over(letters, value):
    """Whether the value is a string that has only these letters."""
    return isinstance(value, str) and all([letter in letters for letter in value])


def rows_up_to(letters, most):
    """The number of all rows of at most so many letters."""
    many = 1
    for _ in range(most):
        many = many * len(letters) + 1
    return many


def numbered_row(letters, number):
    """The row with this number, however long it is."""
    row = ""
    while number > 0:
        number, place = divmod(number - 1, len(letters))
        row = letters[place] + row
    return row


def check_letters(letters):
    """Raise InvalidLetters unless these are letters."""
    if not is_letters(letters):
        raise InvalidLetters(letters)


def check_row(letters, row):
    """Raise InvalidRow unless this is a row over the letters."""
    if not is_over(letters, row):
        raise InvalidRow(row)


def check_most(most):
    """Raise an error unless rows of so many letters can be listed."""
    check_count(most)
    if most > LONGEST_ROW:
        raise TooMany("letters", LONGEST_ROW)
