"""Machines: all runs of an operation at once, and what the runs look up."""

from answersby.checks import is_number
from answersby.engine import check_run
from answersby.errors import NoMachine, NoNumber, TooMany
from answersby.forms import Met, form_of
from answersby.names import METHODS, outcomes_of
from answersby.rows import are_by_breadth, first_wrong_row
from answersby.runs import Run
from answersby.scenes import OPERANDS
from answersby.scripts import call_of, check_outcome, check_script, end_of

MOST_ROWS = 400
MOST_MOST = 2000
MOST_MACHINE_ROWS = 10000
# The document allows to give up at 4 states for each row; giving up later refuses less.
STATES_FOR_A_ROW = 10


class Machine:
    """Rows that scripts are played on; it never changes."""

    def __init__(self, rows):
        if not isinstance(rows, (list, tuple)) or not 1 <= len(rows) <= MOST_MACHINE_ROWS:
            raise NoMachine(None)
        wrong = first_wrong_row(rows)
        if wrong is not None:
            raise NoMachine(wrong)
        if not are_by_breadth(rows):
            raise NoMachine(None)
        self._rows = tuple(rows)
        self._form = form_of(self._rows)

    def listed(self):
        """The list of the rows."""
        return list(self._rows)

    def form(self):
        """The tuple of the rows of the form."""
        return self._form

    def play(self, script):
        """The tuple (end, call, row) behind a script; end or call is None."""
        check_script(script)
        walk = Walk(self)
        for outcome in script:
            walk(outcome)
        return (walk.end(), walk.call(), walk.at())

    def walk(self):
        """A Walk at row 0."""
        return Walk(self)

    def __eq__(self, other):
        return isinstance(other, Machine) and self._form == other._form

    def __iter__(self):
        return iter(self._rows)

    def __len__(self):
        return len(self._rows)


def check_machine(machine):
    """Raises NoMachine(None) unless it is a Machine (any value)."""
    if not isinstance(machine, Machine):
        raise NoMachine(None)


class Walk:
    """Goes from row to row of a machine."""

    def __init__(self, machine):
        check_machine(machine)
        self._rows = machine.listed()
        self._number = 0
        self._outcomes = 0

    def __call__(self, outcome):
        call = self.call()
        check_outcome(call, outcome, self._outcomes)
        nexts = self._rows[self._number][2]
        self._number = nexts[outcomes_of(call[1]).index(outcome)]
        self._outcomes += 1
        return self._number

    def at(self):
        """The number of the row."""
        return self._number

    def call(self):
        """The call of the row, or None."""
        return call_of(self._rows[self._number])

    def end(self):
        """The end of the row, or None."""
        return end_of(self._rows[self._number])


def _explored(run, operation, exchanged, most):
    """The rows of all states of the runs, numbered by breadth."""
    met = Met(run.begin(operation, exchanged))
    rows = []
    while len(rows) < met.many():
        state = met.thing(len(rows))
        call = call_of(state)
        if call is None:
            rows.append(state)
        else:
            nexts = [met.number(run.behind(state, outcome)) for outcome in outcomes_of(call[1])]
            rows.append(("call", call, tuple(nexts)))
        if met.many() > STATES_FOR_A_ROW * most:
            raise TooMany(most)
    return rows


def _form_and_lookups(scene, operation, exchanged, most):
    """The rows of the machine of an operation, and the lookups of its runs."""
    check_run(scene, operation, exchanged)
    if not is_number(most) or not 1 <= most <= MOST_MOST:
        raise NoNumber(most)
    run = Run(scene)
    form = form_of(_explored(run, operation, exchanged, most))
    if len(form) > most:
        raise TooMany(most)
    return form, run.lookups()


def machine_of(scene, operation, *, exchanged=False, most=MOST_ROWS):
    """The Machine of an operation."""
    form, _ = _form_and_lookups(scene, operation, exchanged, most)
    return Machine(form)


def names_of(scene, operation, *, exchanged=False, most=MOST_ROWS):
    """The different tuples (operand, method) that are looked up, not behind a class."""
    _, lookups = _form_and_lookups(scene, operation, exchanged, most)
    bars_hash = scene.book().bars_hash
    names = {}
    for operand, method, behind in lookups:
        if behind is None:
            for watched in _watched(method, bars_hash):
                names[operand, watched] = True
    return [(operand, method) for operand in OPERANDS for method in METHODS if (operand, method) in names]


def looked_of(scene, operation, *, exchanged=False, most=MOST_ROWS):
    """The different tuples (class, method) through which any lookup goes."""
    _, lookups = _form_and_lookups(scene, operation, exchanged, most)
    bars_hash = scene.book().bars_hash
    looked = {}
    for operand, method, behind in lookups:
        for name in scene.walked(operand, method, behind):
            for watched in _watched(method, bars_hash):
                looked[name, watched] = True
    return [(name, method) for name in scene.table() for method in METHODS if (name, method) in looked]


def _watched(method, bars_hash):
    """The methods whose entries a lookup of this method hangs on."""
    return ("hash", "like") if method == "hash" and bars_hash else (method,)
