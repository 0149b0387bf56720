"""Passes over items, and the places of calls in them.

The past of a run is a tuple (begin, steps, last): the last call that began a pass, the
number of steps since, and the place of the last step; begin and last are None if there
is none.
"""

from answersby.names import takes_other
from answersby.runs import ITEM

BEGINNING = (None, 0, None)


def begins_pass(call):
    """Whether a call begins a pass."""
    return call[1] in ("walk", "back") or call[3] == "first"


def is_step(call):
    """Whether a call is a step."""
    return call[1] == "step" or call[3] in ("first", "up")


def is_with_item(call):
    """Whether a call is on operand 2, or has it as the other operand."""
    operand, method, _, at = call
    return operand == ITEM or takes_other(method) and at == ITEM


def place_of(call, past):
    """The place of a call behind this past."""
    begin, steps, last = past
    if is_step(call):
        return (call, 0) if begins_pass(call) else (begin, steps)
    return last if is_with_item(call) else None


def past_behind(call, past):
    """The past behind a call that had this past."""
    begin, steps, last = past
    if begins_pass(call):
        begin, steps = call, 0
    if is_step(call):
        return (begin, steps + 1, place_of(call, past))
    return (begin, steps, last)
