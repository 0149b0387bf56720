"""The lines of a console: their forms, and the words of ends."""

from answersby.agreements import AGREEMENTS
from answersby.checks import is_one_of
from answersby.names import MOST_COUNT
from answersby.notes import read_entry

# The least and the greatest number of words of a line, by its first word; None: any number.
SIZES = {
    "class": (2, None),
    "bases": (2, None),
    "set": (4, None),
    "clear": (3, 3),
    "undo": (1, 1),
    "order": (2, 2),
    "scene": (2, 4),
    "run": (2, None),
    "names": (2, 2),
    "differs": (3, 3),
    "agrees": (2, 2),
}


def _has_size(words):
    """Whether a line has as many words as its first word wants."""
    if words[0] not in SIZES or "" in words:
        return False
    least, most = SIZES[words[0]]
    return least <= len(words) and (most is None or len(words) <= most)


def is_line(words):
    """Whether words are a line of one of the forms."""
    if not _has_size(words):
        return False
    if words[0] == "set":
        return read_entry(words[2], words[3:]) is not None
    return words[0] != "agrees" or is_one_of(words[1], AGREEMENTS)


def outcome_of(word):
    """The outcome that a word of a line stands for."""
    digits = [str(number) for number in range(MOST_COUNT + 1)]
    return digits.index(word) if word in digits else word


def words_of_end(end):
    """The words of an end; of a loop, the number of the keys of its ring."""
    words = [end[0]]
    for told in end[1:]:
        words.append(str(len(told)) if end[0] == "loop" else str(told))
    return words


def words_of_script(script):
    """The words of the outcomes of a script."""
    return [str(outcome) for outcome in script]
