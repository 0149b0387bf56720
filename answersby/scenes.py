"""Scenes: a table with the classes of three operands, and lookups in it."""

from answersby.bodies import Body
from answersby.checks import is_number, is_one_of
from answersby.errors import NoClass, NoOperand, NoScene
from answersby.names import check_method
from answersby.tables import check_table

OPERANDS = (0, 1, 2)


def is_operand(value):
    """Whether any value is 0, 1 or 2."""
    return is_number(value) and value in OPERANDS


def check_operand(operand):
    """Raises NoOperand(operand) unless it is 0, 1 or 2 (any value)."""
    if not is_operand(operand):
        raise NoOperand(operand)


class Scene:
    """A table as it was, with the classes of the operands 0, 1 and 2."""

    def __init__(self, table, left, right=None, item=None):
        check_table(table)
        names = (left, left if right is None else right, left if item is None else item)
        for name in names:
            if name not in table:
                raise NoClass(name)
        self._names = names
        self._table = table.twin()
        self._book = table.book()

    def classes(self):
        """The names of the classes of the three operands."""
        return self._names

    def ways(self, operation):
        """The book's ways of an operation."""
        return self._book[operation]

    def table(self):
        """A twin of the table."""
        return self._table.twin()

    def book(self):
        """A twin of the book."""
        return self._book.twin()

    def entry(self, name, method):
        """The entry of a class for a method, or None."""
        return self._table[name, method]

    def over(self, table):
        """A Scene of the same three names over another table."""
        return Scene(table, *self._names)

    def _bars_hash(self, name):
        entry = self._table[name, "like"]
        return self._book.bars_hash and (isinstance(entry, Body) or entry == "native")

    def _found(self, name, method):
        """What a lookup of the method finds in this class, or None."""
        entry = self._table[name, method]
        if entry is None and method == "hash" and self._bars_hash(name):
            return "barred"
        return entry

    def _way_of(self, operand, method, behind):
        """The classes through which a lookup goes if it finds nothing."""
        check_operand(operand)
        check_method(method)
        order = self._table.order(self._names[operand])
        if behind is None:
            return order
        if not is_one_of(behind, order):
            raise NoClass(behind)
        return order[order.index(behind) + 1:]

    def lookup(self, operand, method, behind=None):
        """The tuple (owner, entry) that a lookup finds, or None."""
        for name in self._way_of(operand, method, behind):
            entry = self._found(name, method)
            if entry is not None:
                return (name, entry)
        return None

    def walked(self, operand, method, behind=None):
        """The classes through which a lookup goes, up to the owner."""
        walked = []
        for name in self._way_of(operand, method, behind):
            walked.append(name)
            if self._found(name, method) is not None:
                break
        return walked


def check_scene(scene):
    """Raises NoScene(scene) unless it is a Scene (any value)."""
    if not isinstance(scene, Scene):
        raise NoScene(scene)
