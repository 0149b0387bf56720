"""Classes to come: which ones change an operation, and which ones leave it alone."""

from answersby.alike import parting
from answersby.errors import NotNamed
from answersby.machines import machine_of, names_of
from answersby.names import METHODS, check_method, check_operation
from answersby.scenes import Scene, check_operand, check_scene

# One more than a table has classes, so one of them is always free.
HEIR_NAMES = ("a", "b", "c", "d", "e", "f", "g", "h", "i")


def heir_scene(scene, operand, name, entries, *, front=(), back=()):
    """The scene in which an heir of the class of an operand stands for it."""
    check_scene(scene)
    check_operand(operand)
    table = scene.table()
    names = list(scene.classes())
    bases = (*front, names[operand], *back)
    table.add(name, *bases)
    for method, entry in entries.items():
        table[name, method] = entry
    names[operand] = name
    return Scene(table, *names)


def _named(names, operand):
    """The methods that stand with an operand among names."""
    return [method for named, method in names if named == operand]


def _leaves_alone(earlier, later, operand, methods):
    """Whether the later scene's class of an operand leaves these methods alone."""
    table, table_then = earlier.table(), later.table()
    order = table.order(earlier.classes()[operand])
    order_then = table_then.order(later.classes()[operand])
    if [name for name in order_then if name in order] != order:
        return False
    if any([table.entries(name) != table_then.entries(name) for name in order]):
        return False
    others = [name for name in order_then if name not in order]
    return not any([method in methods for name in others for method, _ in table_then.entries(name)])


def spared(scene, operation, later):
    """Whether a later scene leaves alone what an operation hangs on."""
    check_scene(scene)
    check_operation(operation)
    check_scene(later)
    names = names_of(scene, operation)
    if scene.book() != later.book():
        return False
    operands = sorted(set([operand for operand, _ in names]))
    return all([_leaves_alone(scene, later, operand, _named(names, operand)) for operand in operands])


def _witnesses(scene, operation, names):
    """The tuples (operand, method, witness) of some names of an operation."""
    machine = machine_of(scene, operation)
    free = [word for word in HEIR_NAMES if word not in scene.table()]
    rows = []
    for operand, method in names:
        heir = heir_scene(scene, operand, free[0], {method: "native"})
        rows.append((operand, method, parting(machine, machine_of(heir, operation))))
    return rows


def witness(scene, operation, operand, method):
    """The script by which an heir with this one native method changes the machine."""
    check_scene(scene)
    check_operation(operation)
    check_operand(operand)
    check_method(method)
    if (operand, method) not in names_of(scene, operation):
        raise NotNamed(method)
    return _witnesses(scene, operation, [(operand, method)])[0][2]


def witnesses(scene, operation):
    """The tuples (operand, method, witness) of all names of an operation."""
    return _witnesses(scene, operation, names_of(scene, operation))


def free_methods(scene, operation, operand):
    """The methods that are not among the names with an operand."""
    check_scene(scene)
    check_operation(operation)
    check_operand(operand)
    named = _named(names_of(scene, operation), operand)
    return [method for method in METHODS if method not in named]
