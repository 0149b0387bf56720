"""A second writing of the search in step: each state is run anew from the list of what was asked."""

from answersby.names import METHODS, outcomes_of, takes_other
from answersby.steady import questions

ANSWERS = ("yes", "no", "count", "done", "got")


class Clashed(Exception):
    pass


def begins(call):
    return call[1] in ("walk", "back") or call[3] == "first"


def steps(call):
    return call[1] == "step" or call[3] in ("first", "up")


def on_item(call):
    return call[0] == 2 or call[1] in METHODS and takes_other(call[1]) and call[3] == 2


def are_related(relation, first, second, items):
    if first[0] not in ANSWERS and second[0] not in ANSWERS:
        return True
    if first[0] not in ANSWERS or second[0] not in ANSWERS:
        return False
    if relation == "same":
        return first == second
    if relation == "opposite":
        return {first[0], second[0]} == {"yes", "no"}
    if relation == "nonzero":
        return second[0] == "count" and first[0] == ("no" if second[1] == 0 else "yes")
    return second == ("done",) and first == ("count", items)


class Runner:
    """One machine, run from its start by the outcomes that were kept at the time of each call."""

    def __init__(self, machine):
        self.machine = machine
        self.rows = machine.listed()
        self.row = 0
        self.script = []
        self.begun = []

    def copy(self):
        other = Runner(self.machine)
        other.row, other.script, other.begun = self.row, list(self.script), list(self.begun)
        return other

    def call(self):
        return self.rows[self.row][1] if self.rows[self.row][0] == "call" else None

    def end(self):
        return self.rows[self.row][1] if self.rows[self.row][0] == "end" else None

    def again(self):
        return self.call() is not None and begins(self.call()) and self.call() in self.begun

    def take(self, outcome):
        call, nexts = self.rows[self.row][1:]
        if begins(call):
            self.begun.append(call)
        self.row = nexts[outcomes_of(call[1]).index(outcome)]
        self.script.append(outcome)

    def asked(self):
        return questions(self.machine, self.script)

    def place(self):
        """The place of the waiting call: what questions tells of it, whatever its outcome is."""
        return questions(self.machine, [*self.script, "raise"])[-1][1]

    def items(self):
        return self.script.count("same") + self.script.count("other")

    def go(self, kept):
        """Passes rows by kept outcomes; False if the run never ends."""
        seen = []
        while self.call() in kept and not self.again():
            if self.row in seen:
                return False
            seen.append(self.row)
            self.take(kept[self.call()])
        return True


def state_of(one, other, kept, relation):
    outcomes = frozenset(kept.items())
    items = min(5, other.items()) if relation == "counts" else None
    return one.row, tuple(one.begun), other.row, tuple(other.begun), outcomes, items


def look(one, other):
    """The call that is out of step, or None; and the runs that take the next question."""
    for run in (one, other):
        if run.again():
            return run.call(), []
    for run in (one, other):
        if run.call() is not None and not steps(run.call()):
            return None, [run]
    waiting = [run for run in (one, other) if run.call() is not None]
    if len(waiting) == 2:
        begun = [run.call() if begins(run.call()) else (run.begun or [None])[-1] for run in waiting]
        if one.call() != other.call() or begun[0] != begun[1]:
            return one.call(), []
    return None, waiting


def behind(one, other, kept, asking):
    """The tuples (asked, one, other, kept) behind all outcomes of the next question."""
    call = asking[0].call()
    for outcome in outcomes_of(call[1]):
        asked = (call, asking[0].place(), outcome)
        first, second = one.copy(), other.copy()
        if steps(call):
            for run, known in ((first, one), (second, other)):
                if known in asking:
                    run.take(outcome)
            kept_then = {key: value for key, value in kept.items() if not on_item(key)}
        else:
            kept_then = {**kept, call: outcome}
        ends = [run.go(kept_then) for run in (first, second)]
        if all(ends):
            yield asked, first, second, kept_then


def plain_clash(first, second, relation, most=4000):
    """What clash returns; ("out of step", asked) or ("too many", most) if it raises."""
    one, other = Runner(first), Runner(second)
    states = [([], one, other, {})]
    met = {state_of(one, other, {}, relation)}
    for told, one, other, kept in states:
        out, asking = look(one, other)
        if out is not None:
            return "out of step", out
        if not asking:
            if not are_related(relation, one.end(), other.end(), other.items()):
                return told
            continue
        for asked, one_then, other_then, kept_then in behind(one, other, kept, asking):
            state = state_of(one_then, other_then, kept_then, relation)
            if state not in met:
                met.add(state)
                if len(met) > most:
                    return "too many", most
                states.append(([*told, asked], one_then, other_then, kept_then))
    return None
