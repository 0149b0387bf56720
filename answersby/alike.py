"""Machines compared: where they part, and which rows are alike."""

from answersby.checks import is_number
from answersby.errors import NoPair
from answersby.forms import alike_numbers
from answersby.machines import check_machine
from answersby.names import outcomes_of
from answersby.rows import nexts_of


def differ(one, other):
    """Whether two rows differ; the numbers of the rows behind them do not matter."""
    return one[:2] != other[:2]


def searched(first, second, start):
    """Goes through two machines together, by breadth, until two rows differ.

    Returns the pair that differs, or None, and a dict of the pairs met: each with the
    pair before it and the place of the outcome that leads from there to it.
    """
    firsts, seconds = first.listed(), second.listed()
    before = {start: None}
    waiting = [start]
    at = 0
    while at < len(waiting):
        pair = waiting[at]
        one, other = firsts[pair[0]], seconds[pair[1]]
        if differ(one, other):
            return pair, before
        for place, behind in enumerate(zip(nexts_of(one), nexts_of(other))):
            if behind not in before:
                before[behind] = (pair, place)
                waiting.append(behind)
        at += 1
    return None, before


def _script_to(pair, before, machine):
    """The script on which a pair was met, by the calls of the first machine."""
    rows = machine.listed()
    script = []
    while before[pair] is not None:
        pair, place = before[pair]
        call = rows[pair[0]][1]
        script.append(outcomes_of(call[1])[place])
    return script[::-1]


def _is_row_of(machine, value):
    return is_number(value) and 0 <= value < len(machine)


def _is_start(first, second, value):
    if not isinstance(value, tuple) or len(value) != 2:
        return False
    return _is_row_of(first, value[0]) and _is_row_of(second, value[1])


def parting(first, second, *, start=(0, 0)):
    """The shortest script by which two machines part from two rows, or None."""
    check_machine(first)
    check_machine(second)
    if not _is_start(first, second, start):
        raise NoPair(start)
    pair, before = searched(first, second, start)
    return None if pair is None else _script_to(pair, before, first)


def script_to(machine, number):
    """The shortest script to a row; of several shortest ones the first one."""
    # A machine never parts from itself, so all its rows are met.
    _, before = searched(machine, machine, (0, 0))
    return _script_to((number, number), before, machine)


def alike_rows(machine):
    """For each row the least row behind which every script goes on as behind it."""
    check_machine(machine)
    return alike_numbers(machine.listed())
