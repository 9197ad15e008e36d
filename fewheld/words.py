"""Words of texts and commands: numbers, names, states with spaces between."""

from fewheld.books import Book
from fewheld.rows import ALPHABET, is_over

DIGITS = "0123456789"
LONGEST_NAME = 8


def is_number(word):
    """Whether the word is a number in decimal without unnecessary zeros."""
    return word != "" and is_over(DIGITS, word) and (word == "0" or not word.startswith("0"))


def number_in(word):
    """The number that the word tells."""
    number = 0
    # int() refuses words of some thousands of digits.
    for digit in word:
        number = number * 10 + DIGITS.index(digit)
    return number


def numbers_in(words):
    """The numbers that the words tell."""
    return [number_in(word) for word in words]


def is_size(word):
    """Whether the word is a number of states that a book can have."""
    return is_number(word) and 1 <= number_in(word) <= Book.MOST_STATES


def is_name(value):
    """Whether the value is a name: one to eight letters from a to z."""
    return is_over(ALPHABET, value) and 1 <= len(value) <= LONGEST_NAME


def spaced(parts):
    """The parts with one space between."""
    return " ".join([str(part) for part in parts])
