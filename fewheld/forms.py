"""The forms of the commands of a desk."""

from fewheld.errors import InvalidCommand
from fewheld.rows import ALPHABET, is_letters, is_over
from fewheld.words import is_name, is_number, is_size

# For each command the kinds of the words behind its first one. Where dots
# stand at the end there may be more words of the last kind.
FORMS = {
    "make": "new letters size",
    "copy": "new name",
    "side": "new name name",
    "both": "new name name",
    "turn": "new name",
    "opened": "new name",
    "start": "name number",
    "end": "name number",
    "step": "name number letter number",
    "drop": "name",
    "undo": "",
    "reads": "name row",
    "comes": "name row",
    "readings": "name row",
    "width": "name",
    "enough": "name number",
    "ahead": "name number",
    "loses": "name number number ..",
    "follow": "name name",
    "growth": "name",
}
MORE = ".."
NO_LETTERS = "-"


def words_of(command):
    """The words of the command; InvalidCommand for any value that is none."""
    if not isinstance(command, str):
        raise InvalidCommand(command)
    words = command.split(" ")
    kinds = kinds_of(words)
    if kinds is None or len(kinds) != len(words) - 1:
        raise InvalidCommand(command)
    if not all([is_word(kind, word) for kind, word in zip(kinds, words[1:])]):
        raise InvalidCommand(command)
    return words


def kinds_of(words):
    """The kinds of words that are due behind the first one, None if no command begins with it."""
    if words[0] not in FORMS:
        return None
    kinds = FORMS[words[0]].split()
    if MORE not in kinds:
        return kinds
    kinds = kinds[:-1]
    return kinds + kinds[-1:] * (len(words) - 1 - len(kinds))


def is_word(kind, word):
    """Whether the word is of this kind."""
    if kind in ("new", "name"):
        return is_name(word)
    if kind == "letters":
        return is_letters(word)
    if kind == "size":
        return is_size(word)
    if kind == "number":
        return is_number(word)
    if kind == "letter":
        return len(word) == 1 and is_over(ALPHABET, word)
    return word == NO_LETTERS or word != "" and is_over(ALPHABET, word)


def row_in(word):
    """The row that the word tells."""
    return "" if word == NO_LETTERS else word


def word_of_row(row):
    """The word that tells the row."""
    return NO_LETTERS if row == "" else row
