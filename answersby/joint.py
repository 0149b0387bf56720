"""Two machines in step: the shortest steady behaviour whose ends are not related.

The round of a step is no part of a joint state: an outcome that is kept for a call on
or with operand 2 is always that behind the last step, so its call alone tells it.
"""

from answersby.checks import is_number
from answersby.errors import NoNumber, OutOfStep, TooMany
from answersby.forms import Met
from answersby.machines import check_machine
from answersby.names import outcomes_of
from answersby.passes import BEGINNING, begins_pass, is_step, is_with_item, past_behind, place_of
from answersby.scripts import call_of, end_of
from answersby.steady import check_relation, related

MOST_STATES = 4000
MOST_MOST = 20000
# The number of items that stands for all larger ones.
MANY_ITEMS = 5


class Side:
    """One of the two runs in a joint state; it never changes."""

    def __init__(self, rows, at, begun, past, items):
        self._rows = rows
        self._at = at
        self._begun = begun
        self._past = past
        self._items = items

    def call(self):
        """The call for which the run waits, or None."""
        return call_of(self._rows[self._at])

    def end(self):
        """The end of the run, or None."""
        return end_of(self._rows[self._at])

    def key(self):
        """What tells the run from others in a joint state."""
        return (self._at, self._begun)

    def many_items(self):
        """The number of its items, or MANY_ITEMS if there are more."""
        return self._items

    def place_asked(self):
        """The place of the call for which the run waits."""
        return place_of(self.call(), self._past)

    def begins_again(self):
        """Whether the run waits for a call that begins a pass that it has begun."""
        return self.call() in self._begun

    def behind(self, outcome):
        """The run behind an outcome of its call."""
        _, call, nexts = self._rows[self._at]
        at = nexts[outcomes_of(call[1]).index(outcome)]
        begun = (*self._begun, call) if begins_pass(call) else self._begun
        items = self._items + 1 if outcome in ("same", "other") else self._items
        return Side(self._rows, at, begun, past_behind(call, self._past), min(items, MANY_ITEMS))

    def passed(self, kept):
        """The run behind all rows that it passes by kept outcomes, or None if it never ends."""
        side = self
        rows = {}
        while side.call() in kept and not side.begins_again():
            if side._at in rows:
                return None
            rows[side._at] = True
            side = side.behind(kept[side.call()])
        return side


def _check_in_step(first, second):
    """Raises OutOfStep(asked) if two runs are out of step."""
    for side in (first, second):
        if side.begins_again():
            raise OutOfStep(side.call())
    waiting = [side.call() for side in (first, second) if side.call() is not None]
    if len(waiting) == 2 and all([is_step(call) for call in waiting]):
        if waiting[0] != waiting[1] or first.place_asked()[0] != second.place_asked()[0]:
            raise OutOfStep(waiting[0])


def _asking(first, second):
    """The run whose question is the next one, or None if both have ended."""
    waiting = [side for side in (first, second) if side.call() is not None]
    free = [side for side in waiting if not is_step(side.call())]
    asking = [*free, *waiting]
    return asking[0] if asking else None


def _kept_behind(kept, call, outcome):
    """The kept outcomes behind an outcome of this call."""
    if is_step(call):
        return {other: kept[other] for other in kept if not is_with_item(other)}
    return {**kept, call: outcome}


def _behind(first, second, kept, call, outcome):
    """The two runs behind an outcome, by these kept ones; None for one that never ends."""
    sides = [first, second]
    if is_step(call):
        # Who waits for something else here has ended.
        sides = [side.behind(outcome) if side.call() == call else side for side in sides]
    return [side.passed(kept) for side in sides]


def _numbered_calls(rows):
    """A dict of the calls of rows (None for an end), each with a number of its own."""
    numbers = {}
    for row in rows:
        call = call_of(row)
        if call not in numbers:
            numbers[call] = len(numbers)
    return numbers


class Search:
    """The joint states of two machines, numbered in the order in which they are met."""

    def __init__(self, first, second, relation, most):
        rows = (first.listed(), second.listed())
        sides = [Side(part, 0, (), BEGINNING, 0) for part in rows]
        self._relation = relation
        self._most = most
        self._numbers = _numbered_calls([*rows[0], *rows[1]])
        self._states = [(sides[0], sides[1], {})]
        self._befores = [None]
        self._met = Met(self._key(sides[0], sides[1], {}))

    def _key(self, first, second, kept):
        """What tells a joint state from others."""
        items = second.many_items() if self._relation == "counts" else 0
        outcomes = sorted([(self._numbers[call], kept[call]) for call in kept])
        return (first.key(), second.key(), tuple(outcomes), items)

    def many(self):
        """The number of the joint states that were met."""
        return len(self._states)

    def clashes(self, number):
        """Whether both runs of a joint state have ended, and the ends are not related."""
        first, second, _ = self._states[number]
        _check_in_step(first, second)
        if _asking(first, second) is not None:
            return False
        return not related(self._relation, first.end(), second.end(), second.many_items())

    def go_on(self, number):
        """Meets all joint states behind one."""
        first, second, kept = self._states[number]
        side = _asking(first, second)
        if side is None:
            return
        call = side.call()
        for outcome in outcomes_of(call[1]):
            kept_then = _kept_behind(kept, call, outcome)
            sides = _behind(first, second, kept_then, call, outcome)
            if not any([run is None for run in sides]):
                self._meet((sides[0], sides[1], kept_then), (number, (call, side.place_asked(), outcome)))

    def _meet(self, state, before):
        first, second, kept = state
        if self._met.number(self._key(first, second, kept)) == len(self._states):
            self._states.append(state)
            self._befores.append(before)
            if len(self._states) > self._most:
                raise TooMany(self._most)

    def questions_to(self, number):
        """The tuples (call, place, outcome) that led to a joint state."""
        told = []
        while self._befores[number] is not None:
            number, question = self._befores[number]
            told.append(question)
        return told[::-1]


def clash(first, second, relation, *, most=MOST_STATES):
    """The shortest steady behaviour for which the ends of two machines are not related, or None."""
    check_machine(first)
    check_machine(second)
    check_relation(relation)
    if not is_number(most) or not 1 <= most <= MOST_MOST:
        raise NoNumber(most)
    search = Search(first, second, relation, most)
    number = 0
    while number < search.many():
        if search.clashes(number):
            return search.questions_to(number)
        search.go_on(number)
        number += 1
    return None
