"""Plays: runs that follow a script."""

from answersby.engine import first_state, next_state
from answersby.scripts import call_of, check_outcome, check_script, end_of


class Play:
    """The run of an operation behind the outcomes of a script."""

    def __init__(self, scene, operation, script, *, exchanged=False):
        state = first_state(scene, operation, exchanged=exchanged)
        check_script(script)
        log = []
        for index, outcome in enumerate(script):
            call = call_of(state)
            check_outcome(call, outcome, index)
            log.append((call, outcome))
            state = next_state(scene, state, outcome)
        self._log = log
        self._state = state

    def listed(self):
        """The list of the tuples (call, outcome)."""
        return list(self._log)

    def end(self):
        """The end behind the script, or None."""
        return end_of(self._state)

    def waits(self):
        """The call that waits behind the script, or None."""
        return call_of(self._state)

    def __iter__(self):
        return iter(self._log)

    def __len__(self):
        return len(self._log)


def called(scene, operation, script):
    """The list of the calls of a play, the waiting one included."""
    play = Play(scene, operation, script)
    calls = [call for call, _ in play.listed()]
    waiting = play.waits()
    return calls if waiting is None else [*calls, waiting]
