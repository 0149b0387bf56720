"""Other books: what they change, and where two books part."""

from answersby.books import MENUS, check_book
from answersby.checks import is_one_of
from answersby.edits import machines_of, partings
from answersby.errors import NoEntry
from answersby.machines import machine_of
from answersby.names import METHODS, check_operation
from answersby.runs import ITEM, target_of
from answersby.scenes import OPERANDS, Scene, check_scene, is_operand
from answersby.tables import ENTRY_WORDS, Table

# The classes of the operands 0, 1 and 2 of a list of entries.
SPREAD_CLASSES = ("left", "right", "item")


def with_book(scene, book):
    """The scene over a twin of the table with this book."""
    check_scene(scene)
    table = scene.table()
    table.set_book(book)
    return scene.over(table)


def book_changes(scene, book):
    """The tuples (operation, script) of the operations that another book changes."""
    later = with_book(scene, book)
    return partings(machines_of(scene), machines_of(later))


def idle_ways(scene, operation):
    """The ways of an operation without each of which alone its machine is the same."""
    machine = machine_of(scene, operation)
    ways = scene.ways(operation)
    idle = []
    for way in ways:
        book = scene.book()
        book[operation] = tuple([other for other in ways if other != way])
        if machine_of(with_book(scene, book), operation) == machine:
            idle.append(way)
    return tuple(idle)


def turning_books(scene, operation, *books):
    """The numbers of the books with which the machine differs from that with the book before."""
    check_scene(scene)
    check_operation(operation)
    for book in books:
        check_book(book)
    machines = [machine_of(with_book(scene, book), operation) for book in books]
    return [number for number in range(1, len(machines)) if machines[number] != machines[number - 1]]


def _place_of(pair):
    """What orders pairs (operand, method)."""
    return (pair[0], METHODS.index(pair[1]))


def _pairs_of(operation):
    """The pairs (operand, method) on which an operation may hang if there are no bodies."""
    targets = [target_of(operation, way, 0, 1) for way in MENUS[operation]]
    if operation == "member":
        # Its items are compared with the other operand.
        targets.extend([target_of("like", way, ITEM, 1) for way in MENUS["like"]])
    if operation == "turned":
        targets.append((0, "item", None))
    if operation == "hash":
        targets.append((0, "like", None))
    met = [(operand, method) for operand, method, _ in targets]
    return [(operand, method) for operand in OPERANDS for method in METHODS if (operand, method) in met]


def _longer(lists, pairs):
    """The lists with one entry more behind each of these, smaller ones first."""
    made = []
    for entries in lists:
        last = pairs.index(entries[-1][:2]) if entries else -1
        for operand, method in pairs[last + 1:]:
            made.extend([[*entries, (operand, method, word)] for word in ENTRY_WORDS])
    return made


def _is_apart(entries, first, second, operation):
    """Whether the machines of two books differ on a list of entries."""
    scene = spread(entries, first)
    return machine_of(scene, operation) != machine_of(with_book(scene, second), operation)


def apart(first, second, operation):
    """The smallest list of entries on which two books do not do the same, or None."""
    check_book(first)
    check_book(second)
    check_operation(operation)
    pairs = _pairs_of(operation)
    lists = [[]]
    while lists:
        for entries in lists:
            if _is_apart(entries, first, second, operation):
                return entries
        lists = _longer(lists, pairs)
    return None


def _is_spread(value):
    """Whether any value is a tuple (operand, method, native or blocked)."""
    if not isinstance(value, tuple) or len(value) != 3:
        return False
    operand, method, entry = value
    return is_operand(operand) and is_one_of(method, METHODS) and is_one_of(entry, ENTRY_WORDS)


def _check_spread(entries):
    """Raises NoEntry(None) unless it is a list of entries in its order (any value)."""
    if not isinstance(entries, list) or not all([_is_spread(entry) for entry in entries]):
        raise NoEntry(None)
    places = [_place_of(entry) for entry in entries]
    if any([place <= before for before, place in zip(places, places[1:])]):
        raise NoEntry(None)


def spread(entries, book):
    """The scene of a list of entries, with a class for each operand."""
    _check_spread(entries)
    table = Table(book)
    for name in SPREAD_CLASSES:
        table.add(name)
    for operand, method, entry in entries:
        table[SPREAD_CLASSES[operand], method] = entry
    return Scene(table, *SPREAD_CLASSES)
