"""Runs of operations, from state to state."""

from answersby.checks import check_flag
from answersby.names import check_operation
from answersby.runs import Run
from answersby.scenes import check_scene


def check_run(scene, operation, exchanged):
    """Raises NoScene, NoName or NoFlag unless there is such a run (any values)."""
    check_scene(scene)
    check_operation(operation)
    check_flag(exchanged)


def first_state(scene, operation, *, exchanged=False):
    """The state of a run up to its first call or its end."""
    check_run(scene, operation, exchanged)
    return Run(scene).begin(operation, exchanged)


def next_state(scene, state, outcome):
    """The state of a run behind an outcome of the call of this state."""
    return Run(scene).behind(state, outcome)
