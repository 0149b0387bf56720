"""Scripts, and what a state of a run and a row of a machine have in common."""

from answersby.errors import NoScript
from answersby.names import is_outcome


def call_of(state):
    """The call of a state or a row, or None."""
    return state[1] if state[0] == "call" else None


def end_of(state):
    """The end of a state or a row, or None."""
    return state[1] if state[0] == "end" else None


def check_script(script):
    """Raises NoScript(None) unless it is a list (any value)."""
    if not isinstance(script, list):
        raise NoScript(None)


def check_outcome(call, outcome, index):
    """Raises NoScript(index) unless there is a call and any value is an outcome of it."""
    if call is None or not is_outcome(call[1], outcome):
        raise NoScript(index)
