"""A console: lines that change a table and ask about its operations."""

from answersby.agreements import disagreement
from answersby.alike import parting
from answersby.errors import AnswerError, NoClass, NoNote, NoOrder, OutOfStep, TooMany, Used
from answersby.lines import is_line, outcome_of, words_of_end, words_of_script
from answersby.machines import machine_of, names_of
from answersby.notes import read_entry
from answersby.plays import Play
from answersby.scenes import Scene
from answersby.tables import Table


def _add(table, words):
    name, *bases = words
    table.add(name, *bases)


def _set_bases(table, words):
    name, *bases = words
    table.set_bases(name, *bases)


def _set_entry(table, words):
    name, method, *told = words
    table[name, method] = read_entry(method, told)


def _clear(table, words):
    name, method = words
    table[name, method] = None


def _run(scene, words):
    operation, *told = words
    play = Play(scene, operation, [outcome_of(word) for word in told])
    call = play.waits()
    if call is None:
        return words_of_end(play.end())
    operand, method, owner, _ = call
    return ["waits", str(operand), method, owner]


def _names(scene, words):
    told = []
    for operand, method in names_of(scene, words[0]):
        told.extend([str(operand), method])
    return told


def _differs(scene, words):
    one, other = words
    script = parting(machine_of(scene, one), machine_of(scene, other))
    return ["alike"] if script is None else ["parts", *words_of_script(script)]


def _agrees(scene, words):
    try:
        evidence = disagreement(scene, words[0])
    except (OutOfStep, TooMany):
        return ["open"]
    return ["yes"] if evidence is None else ["no"]


CHANGES = {"class": _add, "bases": _set_bases, "set": _set_entry, "clear": _clear}
QUESTIONS = {"run": _run, "names": _names, "differs": _differs, "agrees": _agrees}


class Console:
    """A table that lines change, and a scene over it that lines ask about."""

    def __init__(self, book):
        self._table = Table(book)
        self._earlier = []
        self._classes = None

    def table(self):
        """A twin of the table."""
        return self._table.twin()

    def run(self, line):
        """The answer to a line."""
        if not isinstance(line, str):
            raise NoNote(None)
        words = line.split(" ")
        if not is_line(words):
            return "wrong"
        if words[0] in QUESTIONS and self._classes is None:
            return "no scene"
        try:
            return " ".join(self._answer(words[0], words[1:]))
        except (AnswerError, NoClass, NoOrder, TooMany, Used):
            return "error"

    def _answer(self, word, words):
        """The words of the answer to a line of a right form."""
        if word == "undo":
            return self._undo()
        if word == "order":
            return self._table.order(words[0])
        if word == "scene":
            return self._choose(words)
        if word in CHANGES:
            return self._change(word, words)
        action = QUESTIONS[word]
        classes = self._classes
        return action(Scene(self._table, *classes), words)

    def _change(self, word, words):
        # On a twin, so that undo has the table as it was.
        table = self._table.twin()
        action = CHANGES[word]
        action(table, words)
        self._earlier.append(self._table)
        self._table = table
        return ["ok"]

    def _undo(self):
        if not self._earlier:
            return ["nothing"]
        self._table = self._earlier.pop()
        return ["ok"]

    def _choose(self, words):
        # Made at once for its errors, and made anew for each line that asks.
        Scene(self._table, *words)
        self._classes = tuple(words)
        return ["ok"]
