"""Edits of tables: made, taken back, and what they change."""

from answersby.alike import parting
from answersby.checks import is_number, is_one_of
from answersby.errors import AnswerError, EditFailed, NoClass, NoEdit, NoNumber, NoOrder
from answersby.machines import looked_of, machine_of
from answersby.names import OPERATIONS, check_operation
from answersby.scenes import check_scene
from answersby.tables import check_table

# The number of items of an edit, by its first word.
LENGTHS = {"set": 4, "clear": 3, "bases": 3, "book": 2}


def _is_edit(value):
    """Whether any value has the form of an edit."""
    if not isinstance(value, tuple) or not value or not isinstance(value[0], str):
        return False
    word = value[0]
    if word not in LENGTHS or len(value) != LENGTHS[word]:
        return False
    return word != "bases" or isinstance(value[2], tuple)


def _check_edits(edits):
    """Raises NoEdit(None) or NoEdit(index) unless it is a list of edits (any value)."""
    if not isinstance(edits, list):
        raise NoEdit(None)
    for index, edit in enumerate(edits):
        if not _is_edit(edit):
            raise NoEdit(index)


def _make(table, edit):
    """Makes one edit on a table; raises as the table does."""
    word = edit[0]
    if word == "book":
        table.set_book(edit[1])
    elif word == "bases":
        bases = edit[2]
        table.set_bases(edit[1], *bases)
    else:
        table[edit[1], edit[2]] = edit[3] if word == "set" else None


def _back(table, edit):
    """The edit that takes this one back, if it is made now; raises as the table does."""
    word = edit[0]
    if word == "book":
        return ("book", table.book())
    name = edit[1]
    if word == "bases":
        return ("bases", name, table.bases(name))
    method = edit[2]
    entry = table[name, method]
    return ("clear", name, method) if entry is None else ("set", name, method, entry)


class Draft:
    """Makes edits on a table; a block that an error leaves gives the table back as it was."""

    def __init__(self, table):
        check_table(table)
        self._table = table
        self._then = table

    def make(self, edit):
        """Makes one edit."""
        _make(self._table, edit)

    def __enter__(self):
        self._then = self._table.twin()
        return self

    def __exit__(self, kind, value, trace):
        # Part by part: only assignments may stand here.
        if kind is not None:
            self._table._book = self._then._book
            self._table._names = self._then._names
            self._table._bases = self._then._bases
            self._table._orders = self._then._orders
            self._table._entries = self._then._entries


def make_edits(table, edits):
    """Makes all edits on a table, or none; returns the edits that take them back."""
    check_table(table)
    _check_edits(edits)
    backs = []
    with Draft(table) as draft:
        for index, edit in enumerate(edits):
            try:
                back = _back(table, edit)
                draft.make(edit)
            except (AnswerError, NoClass, NoOrder):
                raise EditFailed(index)
            backs.append(back)
    return backs[::-1]


def edited(scene, edits):
    """The scene of the same classes over a twin of the table with the edits."""
    check_scene(scene)
    table = scene.table()
    make_edits(table, edits)
    return scene.over(table)


def _touches(edit, looked, orders):
    """Whether an edit is a book, or of one of these pairs or of a class in these orders."""
    if edit[0] == "book":
        return True
    if edit[0] == "bases":
        return any([is_one_of(edit[1], order) for order in orders])
    # Another value than a text might call itself equal to one.
    if not isinstance(edit[1], str) or not isinstance(edit[2], str):
        return False
    return (edit[1], edit[2]) in looked


def may_change(scene, operation, edits):
    """Whether edits may change an operation; False only if they surely do not."""
    check_scene(scene)
    check_operation(operation)
    _check_edits(edits)
    looked = looked_of(scene, operation)
    table = scene.table()
    orders = [table.order(name) for name in scene.classes()]
    return any([_touches(edit, looked, orders) for edit in edits])


def machines_of(scene):
    """The machines of all operations, in their order."""
    return [machine_of(scene, operation) for operation in OPERATIONS]


def partings(machines, later):
    """The tuples (operation, script) of the operations whose machines differ."""
    scripts = [parting(machine, other) for machine, other in zip(machines, later)]
    return [(operation, script) for operation, script in zip(OPERATIONS, scripts) if script is not None]


def changes(scene, edits):
    """The tuples (operation, script) of the operations that edits change."""
    later = edited(scene, edits)
    return partings(machines_of(scene), machines_of(later))


def exchanged_bases(scene, name, one, other):
    """The edit that exchanges two bases of a class."""
    check_scene(scene)
    bases = list(scene.table().bases(name))
    for number in (one, other):
        if not is_number(number) or not 0 <= number < len(bases):
            raise NoNumber(number)
    bases[one], bases[other] = bases[other], bases[one]
    return ("bases", name, tuple(bases))


def _allowed_exchanges(scene, name):
    """The tuples (one, other, scene) of the exchanges that the table allows."""
    many = len(scene.table().bases(name))
    rows = []
    for one in range(many):
        for other in range(one + 1, many):
            try:
                later = edited(scene, [exchanged_bases(scene, name, one, other)])
            except EditFailed:
                continue
            rows.append((one, other, later))
    return rows


def free_exchanges(scene, name):
    """The pairs of numbers of bases whose exchange changes no operation."""
    check_scene(scene)
    rows = _allowed_exchanges(scene, name)
    machines = machines_of(scene) if rows else []
    return [(one, other) for one, other, later in rows if not partings(machines, machines_of(later))]
