"""Sessions: a catalogue that is used by lines of text."""

from fourtouch.catalogue import Catalogue
from fourtouch.commands import is_command, split_words, word_of
from fourtouch.errors import (
    InvalidCircle, InvalidFour, InvalidNotation, InvalidQuestion, NameInUse, NothingToRedo, NothingToUndo, UnknownName,
)
from fourtouch.notation import format_four, integer_text, parse_four


def do_walk(catalogue, words):
    """Lead a four along a word."""
    catalogue.walk(words[0], word_of(words[1:]))


def do_remove(catalogue, words):
    """Remove a four."""
    catalogue.remove_four(words[0])


def do_ask(catalogue, words):
    """Ask a question."""
    name, kind, *names = words
    most = int(names.pop()) if kind == "circles" else None
    catalogue.ask(name, kind, names, most)


def do_drop(catalogue, words):
    """Drop a question."""
    catalogue.drop(words[0])


def do_undo(catalogue, _):
    """Take back a change."""
    catalogue.undo()


def do_redo(catalogue, _):
    """Make a change again."""
    catalogue.redo()


def part_text(part):
    """Return a part of an answer, a word or an integer, as a text."""
    if isinstance(part, str):
        return part
    return integer_text(part)


def answer_line(name, answer):
    """Return the line that tells the answer of a question."""
    return " ".join([name + ":"] + [part_text(part) for part in answer])


def tell_answer(catalogue, words):
    """Return the line of the answer of one question."""
    return [answer_line(words[0], catalogue.answer(words[0]))]


def tell_answers(catalogue, _):
    """Return the lines of the answers of all questions."""
    return [answer_line(name, answer) for name, answer in catalogue.answers()]


def tell_four(catalogue, words):
    """Return the lines of the written form of a four."""
    return format_four(catalogue.four(words[0])).split("\n")


def tell_fours(catalogue, _):
    """Return the line with the names of the fours."""
    return [" ".join(["fours:"] + catalogue.four_names())]


def tell_questions(catalogue, _):
    """Return the line with the names of the questions."""
    return [" ".join(["questions:"] + catalogue.question_names())]


CHANGES = {
    "walk": do_walk, "remove": do_remove, "ask": do_ask, "drop": do_drop, "undo": do_undo, "redo": do_redo,
}
ANSWERS = {
    "answer": tell_answer, "answers": tell_answers, "print": tell_four, "fours": tell_fours,
    "questions": tell_questions,
}


def answers_of(catalogue, words):
    """Do a command that opens no block, and return the lines that it answers."""
    first, *rest = words
    if first in CHANGES:
        change = CHANGES[first]
        change(catalogue, rest)
        return ["ok"]
    tell = ANSWERS[first]
    return tell(catalogue, rest)


class Session:
    """A catalogue, and a block that may be open."""

    def __init__(self):
        self.catalogue = Catalogue()
        self._block_name = None
        self._taken = []

    def _begin_block(self, name):
        self._block_name = name
        self._taken = []
        return ["ok"]

    def _end_block(self):
        name = self._block_name
        # Closed ahead of all that may raise an error: the block is closed then, too.
        self._block_name = None
        four = parse_four("\n".join(["four"] + self._taken))
        self.catalogue.set_four(name, four)
        return ["ok"]

    def _do(self, words):
        if self._block_name is None:
            if words[0] == "four":
                return self._begin_block(words[1])
            return answers_of(self.catalogue, words)
        if words == ["end"]:
            return self._end_block()
        self._taken.append(" ".join(words))
        return []

    def _answers_to(self, number, words):
        if self._block_name is None and not is_command(words):
            return [f"line {number}: invalid command"]
        try:
            return self._do(words)
        except UnknownName as unknown:
            fault = "unknown name " + unknown.name
        except NameInUse as used:
            fault = "name in use " + used.name
        except InvalidNotation as notation:
            # The written form has the line `four` ahead of the lines that were taken, which alone are counted.
            fault = f"invalid notation {notation.line - 1}"
        except InvalidCircle:
            fault = "invalid circle"
        except InvalidFour:
            fault = "invalid four"
        except InvalidQuestion:
            fault = "invalid question"
        except NothingToUndo:
            fault = "nothing to undo"
        except NothingToRedo:
            fault = "nothing to redo"
        return [f"line {number}: {fault}"]

    def run(self, text):
        """Do the lines of a text in order, and return the list of all lines that they answer."""
        answers = []
        for number, line in enumerate(text.split("\n"), start=1):
            words = split_words(line)
            if words:
                answers.extend(self._answers_to(number, words))
        return answers
