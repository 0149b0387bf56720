"""Wishes: what the operations of a scene are to do, and what shows that they do not."""

from answersby.agreements import AGREEMENTS, disagreement
from answersby.alike import script_to
from answersby.checks import is_one_of
from answersby.errors import NoWish, OutOfStep, TooMany
from answersby.machines import machine_of
from answersby.names import OPERATIONS
from answersby.scripts import end_of

MOST_WISHES = 6
OF_OPERATIONS = ("answers", "refuses")
OF_AGREEMENTS = ("agrees",)
UNANSWERED_ENDS = ("refused", "barred", "loop", "deep")
REFUSALS = ("refused", "barred")


def _is_wish(value):
    """Whether any value is a wish."""
    if not isinstance(value, tuple) or len(value) != 2:
        return False
    word, wished = value
    if is_one_of(word, OF_OPERATIONS):
        return is_one_of(wished, OPERATIONS)
    return is_one_of(word, OF_AGREEMENTS) and is_one_of(wished, AGREEMENTS)


def check_wishes(wishes):
    """Raises NoWish(None) or NoWish(index) unless it is a list of wishes (any value)."""
    if not isinstance(wishes, list) or len(wishes) > MOST_WISHES:
        raise NoWish(None)
    for index, wish in enumerate(wishes):
        if not _is_wish(wish):
            raise NoWish(index)


def _against(machine, word):
    """Whether the ends of the rows of a machine are against this wish, a flag for each row."""
    ends = [end_of(row) for row in machine]
    if word == "answers":
        return [end is not None and end[0] in UNANSWERED_ENDS for end in ends]
    return [end is not None and end[0] not in REFUSALS for end in ends]


def _agrees(scene, name):
    """The tuple (whether an agreement holds, its evidence)."""
    try:
        evidence = disagreement(scene, name)
    except (OutOfStep, TooMany):
        return (False, None)
    return (evidence is None, evidence)


def tried(scene, wish):
    """The tuple (whether a wish holds in a scene, the evidence that it does not)."""
    word, wished = wish
    if word == "agrees":
        return _agrees(scene, wished)
    machine = machine_of(scene, wished)
    flags = _against(machine, word)
    if True not in flags:
        return (True, None)
    # Rows are numbered by breadth, so the first one is that of the first shortest script.
    return (False, script_to(machine, flags.index(True)))
