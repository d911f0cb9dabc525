"""The catalogue: fours and questions under names, with changes that can be taken back."""

from fourtouch.addresses import same_heap
from fourtouch.errors import (
    FourtouchError, InvalidQuestion, NameInUse, NothingToRedo, NothingToUndo, TooMany, UnknownName,
)
from fourtouch.lists import circles_up_to
from fourtouch.roots import alike_heaps, root_curvatures, root_of
from fourtouch.walks import four_at

FOURS_ASKED = {"alike": 2, "same": 2, "root": 1, "circles": 1}
MOST_ASKED = 10000
MOST_COUNTED = 2000


def check_question(kind, many, most):
    """Raise InvalidQuestion for a kind, a number of fours or a number that no question has."""
    if kind not in FOURS_ASKED:
        raise InvalidQuestion("there is no such kind of question")
    if FOURS_ASKED[kind] != many:
        raise InvalidQuestion("the question is about another number of fours")
    if (most is not None) != (kind == "circles"):
        raise InvalidQuestion("just the question for circles has a number")
    if most is not None and not 0 <= most <= MOST_ASKED:
        raise InvalidQuestion("the number of the question is out of its bounds")


def circles_answer(four, most):
    """Return the answer that tells how many circles a heap has up to a curvature."""
    if root_of(four).is_strip():
        return ("strip",)
    try:
        return ("circles", len(circles_up_to(four, most, limit=MOST_COUNTED)))
    except TooMany:
        return ("many", MOST_COUNTED)


def yes_or_no(told):
    """Return the answer that tells whether something is so."""
    return ("yes",) if told else ("no",)


def decide(kind, fours, most=None):
    """Return the answer of a question of a kind about some fours."""
    check_question(kind, len(fours), most)
    if kind == "alike":
        return yes_or_no(alike_heaps(fours[0], fours[1]))
    if kind == "same":
        return yes_or_no(same_heap(fours[0], fours[1]))
    if kind == "root":
        return ("root",) + root_curvatures(fours[0])
    return circles_answer(fours[0], most)


class Entry:
    """A four of a catalogue, with a number that no other entry of it has."""

    def __init__(self, number, content):
        self.number = number
        self.content = content


class Table:
    """Things under names."""

    def __init__(self):
        self.things = {}

    def at(self, name):
        """Return the thing with a name."""
        if name not in self.things:
            raise UnknownName(name)
        return self.things[name]

    def put(self, name, thing):
        """Give a name to a thing; for None, take it from the thing that has it."""
        if thing is None:
            del self.things[name]
        else:
            self.things[name] = thing


class Change:
    """What had a name in a table before a change and has it behind it; None where nothing has it."""

    def __init__(self, table, name, thing):
        self.table = table
        self.name = name
        self.before = table.things.get(name)
        self.behind = thing


class Catalogue:
    """Fours and questions under names."""

    def __init__(self):
        self.decided = 0
        self.kept = 0
        self._fours = Table()
        self._questions = Table()
        self._answers = {}
        self._entries = 0
        self._made = []
        self._taken_back = []

    def _change(self, table, name, thing):
        self._made.append(Change(table, name, thing))
        table.put(name, thing)
        # A new list: change_all may have to bring back the old one.
        self._taken_back = []

    def _enter(self, name, four):
        self._entries += 1
        self._change(self._fours, name, Entry(self._entries, four))

    def set_four(self, name, four):
        """Set a four under a name that no four has."""
        if name in self._fours.things:
            raise NameInUse(name)
        self._enter(name, four)

    def walk(self, name, word):
        """Lead a four along a word."""
        self._enter(name, four_at(self.four(name), word))

    def remove_four(self, name):
        """Remove a four that no question is about."""
        self._fours.at(name)
        if any([name in question[1] for question in self._questions.things.values()]):
            raise NameInUse(name)
        self._change(self._fours, name, None)

    def ask(self, name, kind, names, most=None):
        """Ask a question about the fours of some names, in the place of the one of its name."""
        for four_name in names:
            self._fours.at(four_name)
        check_question(kind, len(names), most)
        self._change(self._questions, name, (kind, tuple(names), most))

    def drop(self, name):
        """Drop a question."""
        self._questions.at(name)
        self._change(self._questions, name, None)

    def undo(self):
        """Take back the last change that is not taken back."""
        if not self._made:
            raise NothingToUndo("there is no change to take back")
        change = self._made.pop()
        change.table.put(change.name, change.before)
        self._taken_back.append(change)

    def redo(self):
        """Make the change again that was taken back last."""
        if not self._taken_back:
            raise NothingToRedo("there is no change to make again")
        change = self._taken_back.pop()
        change.table.put(change.name, change.behind)
        self._made.append(change)

    def _make(self, change):
        method, *rest = change
        if method == "set_four":
            self.set_four(*rest)
        elif method == "walk":
            self.walk(*rest)
        elif method == "remove_four":
            self.remove_four(*rest)
        elif method == "ask":
            self.ask(*rest)
        else:
            self.drop(*rest)

    def change_all(self, changes):
        """Make several changes one after another, or none of them if one raises an error."""
        many = len(self._made)
        taken_back = self._taken_back
        try:
            for change in changes:
                self._make(change)
        except FourtouchError:
            while len(self._made) > many:
                self.undo()
            self._taken_back = taken_back
            raise

    def four_names(self):
        """Return the names of the fours, ascending."""
        return sorted(self._fours.things)

    def question_names(self):
        """Return the names of the questions, ascending."""
        return sorted(self._questions.things)

    def four(self, name):
        """Return the four with a name."""
        return self._fours.at(name).content

    def question(self, name):
        """Return the kind, the names and the number of a question."""
        return self._questions.at(name)

    def answer(self, name):
        """Return the answer of a question, which is worked out just once."""
        kind, names, most = self.question(name)
        entries = [self._fours.at(four_name) for four_name in names]
        key = (kind, tuple([entry.number for entry in entries]), most)
        if key in self._answers:
            self.kept += 1
        else:
            self._answers[key] = decide(kind, [entry.content for entry in entries], most)
            self.decided += 1
        return self._answers[key]

    def answers(self):
        """Return the names of all questions with their answers, ascending."""
        return [(name, self.answer(name)) for name in self.question_names()]
