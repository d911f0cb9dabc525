"""The words of a line, and whether they are a command of a session."""

from fourtouch.catalogue import FOURS_ASKED
from fourtouch.names import is_name
from fourtouch.notation import is_integer

PLACES = ("1", "2", "3", "4")

# How many names stand behind the word of a command; `walk` and `ask` have more than names.
NAMES_BEHIND = {
    "four": 1, "remove": 1, "drop": 1, "answer": 1, "print": 1,
    "answers": 0, "fours": 0, "questions": 0, "undo": 0, "redo": 0,
}


def split_words(line):
    """Return the words of a line."""
    return [word for word in line.split(" ") if word]


def is_number(word):
    """Tell whether a word writes an integer without a sign."""
    return is_integer(word) and not word.startswith("-")


def word_of(words):
    """Return the tuple of the numbers from 1 to 4 that some words write, or None if one writes none."""
    if not all([word in PLACES for word in words]):
        return None
    return tuple([int(word) for word in words])


def are_names(words, many):
    """Tell whether some words are so many names."""
    return len(words) == many and all([is_name(word) for word in words])


def is_walk(words):
    """Tell whether the words behind `walk` are those of the command."""
    return are_names(words[:1], 1) and word_of(words[1:]) is not None


def is_ask(words):
    """Tell whether the words behind `ask` are those of the command."""
    if not are_names(words[:1], 1) or len(words) < 2 or words[1] not in FOURS_ASKED:
        return False
    kind, *rest = words[1:]
    if kind == "circles":
        if not rest or not is_number(rest[-1]):
            return False
        rest = rest[:-1]
    return are_names(rest, FOURS_ASKED[kind])


def is_command(words):
    """Tell whether some words, at least one, are a command."""
    first, *rest = words
    if first == "walk":
        return is_walk(rest)
    if first == "ask":
        return is_ask(rest)
    return first in NAMES_BEHIND and are_names(rest, NAMES_BEHIND[first])
