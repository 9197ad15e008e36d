"""Books and list rules as texts, and texts that are read as such."""

from fewheld.books import Book, check_book
from fewheld.errors import InvalidRule, InvalidText
from fewheld.readers import ListRule
from fewheld.rows import is_letters
from fewheld.states import ascending, is_order, is_step
from fewheld.words import is_number, is_size, number_in, numbers_in, spaced

# The lines that each text of a book has: letters, states, starts, ends.
BOOK_LINES = 4
RULE_LINES = 1


def book_text(book):
    """The text of the book."""
    check_book(book)
    heads = [["letters", book.letters], ["states", book.size], ["starts", *book.starts], ["ends", *book.ends]]
    steps = [["step", *step] for step in book.steps()]
    return "".join([spaced(parts) + "\n" for parts in heads + steps])


def read_book(text):
    """The book that the text tells."""
    lines = right_lines(text, BOOK_LINES, is_book_line)
    starts = numbers_in(lines[2][1:])
    ends = numbers_in(lines[3][1:])
    return Book(lines[0][1], number_in(lines[1][1]), starts, ends, [step_in(line) for line in lines[BOOK_LINES:]])


def rule_text(rule):
    """The text of the list rule."""
    if not isinstance(rule, ListRule):
        raise InvalidRule(rule)
    return spaced(["width", rule.width, "order", *rule.order]) + "\n"


def read_rule(text):
    """The list rule that the text tells."""
    lines = right_lines(text, RULE_LINES, is_rule_line)
    return ListRule(numbers_in(lines[0][3:]), number_in(lines[0][1]))


def right_lines(text, least, is_right):
    """The lines of the text, each as the list of its words; InvalidText if one is wrong or lacking.

    is_right(lines, at) tells whether the line there is right, if those ahead of it are.
    """
    if not isinstance(text, str):
        raise InvalidText(None)
    # Behind the last line feed stands what is no whole line.
    *whole, rest = text.split("\n")
    lines = [line.split(" ") for line in whole]
    for at in range(len(lines)):
        if not is_right(lines, at):
            raise InvalidText(at + 1)
    if rest != "" or len(lines) < least:
        raise InvalidText(len(lines) + 1)
    return lines


def is_book_line(lines, at):
    """Whether this line can stand there in the text of a book."""
    words = lines[at]
    if at == 0:
        return len(words) == 2 and words[0] == "letters" and is_letters(words[1])
    if at == 1:
        return len(words) == 2 and words[0] == "states" and is_size(words[1])
    size = number_in(lines[1][1])
    if at < BOOK_LINES:
        return words[0] == ("starts" if at == 2 else "ends") and is_set_told(size, words[1:])
    if not is_step_line(lines[0][1], size, words):
        return False
    return at == BOOK_LINES or step_in(lines[at - 1]) < step_in(words)


def is_set_told(size, words):
    """Whether the words are states, ascending."""
    if not all([is_number(word) for word in words]):
        return False
    states = numbers_in(words)
    return tuple(states) == ascending(size, states)


def is_step_line(letters, size, words):
    """Whether the words tell a step of such a book."""
    if len(words) != 4 or words[0] != "step" or not is_number(words[1]) or not is_number(words[3]):
        return False
    return is_step(letters, size, step_in(words))


def step_in(words):
    """The step that the words of a line tell."""
    _, before, letter, behind = words
    return (number_in(before), letter, number_in(behind))


def is_rule_line(lines, at):
    """Whether this line can stand there in the text of a list rule."""
    words = lines[at]
    if at > 0 or len(words) < 4 or words[0] != "width" or words[2] != "order":
        return False
    if not is_number(words[1]) or not all([is_number(word) for word in words[3:]]):
        return False
    order = numbers_in(words[3:])
    return len(order) <= Book.MOST_STATES and is_order(len(order), order)
