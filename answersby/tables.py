"""Tables: a book, and classes with their bases and entries."""

from answersby.bodies import Body
from answersby.books import check_book
from answersby.checks import is_one_of, is_word
from answersby.errors import NoClass, NoEntry, NoName, NoOrder, NoTable, TooMany, Used
from answersby.names import METHODS, check_method
from answersby.orders import order_of

MOST_CLASSES = 8
ENTRY_WORDS = ("native", "blocked")


def is_entry(method, value):
    """Whether any value is an entry for this method."""
    if isinstance(value, Body):
        return value.method == method
    return is_one_of(value, ENTRY_WORDS)


class Table:
    """A book and at most 8 classes, each of which has an order."""

    def __init__(self, book):
        check_book(book)
        self._book = book.twin()
        self._names = []
        self._bases = {}
        self._orders = {}
        self._entries = {}

    def _check_class(self, name):
        if not is_one_of(name, self._names):
            raise NoClass(name)

    def add(self, name, *bases):
        """Adds a class without entries."""
        if not is_word(name):
            raise NoName(name)
        if name in self._names:
            raise Used(name)
        for base in bases:
            self._check_class(base)
        bases_then = {**self._bases, name: bases}
        order = order_of(name, bases_then)
        if order is None:
            raise NoOrder(name)
        if len(self._names) >= MOST_CLASSES:
            raise TooMany(MOST_CLASSES)
        self._names.append(name)
        self._bases = bases_then
        self._orders[name] = order
        self._entries[name] = {}

    def __getitem__(self, at):
        name, method = at
        self._check_class(name)
        check_method(method)
        return self._entries[name].get(method)

    def __setitem__(self, at, worth):
        name, method = at
        self._check_class(name)
        check_method(method)
        if worth is None:
            self._entries[name].pop(method, None)
        elif is_entry(method, worth):
            self._entries[name][method] = worth
        else:
            raise NoEntry(method)

    def entries(self, name):
        """The tuples (method, entry) of a class, in the order of the methods."""
        self._check_class(name)
        entries = self._entries[name]
        return [(method, entries[method]) for method in METHODS if method in entries]

    def bases(self, name):
        """The tuple of the bases of a class."""
        self._check_class(name)
        return self._bases[name]

    def order(self, name):
        """The order of a class."""
        self._check_class(name)
        return list(self._orders[name])

    def heirs(self, name):
        """The other classes in whose order a class is."""
        self._check_class(name)
        return [heir for heir in self._names if heir != name and name in self._orders[heir]]

    def set_bases(self, name, *bases):
        """Gives a class other bases."""
        self._check_class(name)
        for base in bases:
            self._check_class(base)
        # Looked at first: order_of would never end in a ring of bases.
        if any([name in self._orders[base] for base in bases]):
            raise NoOrder(name)
        bases_then = {**self._bases, name: bases}
        orders_then = dict(self._orders)
        for changed in [name, *self.heirs(name)]:
            order = order_of(changed, bases_then)
            if order is None:
                raise NoOrder(changed)
            orders_then[changed] = order
        self._bases = bases_then
        self._orders = orders_then

    def book(self):
        """A twin of the book."""
        return self._book.twin()

    def set_book(self, book):
        """Gives the table another book."""
        check_book(book)
        self._book = book.twin()

    def twin(self):
        """An equal table that goes on by itself."""
        table = Table(self._book)
        table._names = list(self._names)
        table._bases = dict(self._bases)
        table._orders = dict(self._orders)
        table._entries = {name: dict(self._entries[name]) for name in self._names}
        return table

    def listed(self):
        """The list of the names of the classes."""
        return list(self._names)

    def __eq__(self, other):
        return (
            isinstance(other, Table)
            and self._names == other._names
            and self._bases == other._bases
            and self._entries == other._entries
            and self._book == other._book
        )

    def __contains__(self, value):
        return is_one_of(value, self._names)

    def __iter__(self):
        return iter(self._names)

    def __len__(self):
        return len(self._names)


def check_table(table):
    """Raises NoTable(table) unless it is a Table (any value)."""
    if not isinstance(table, Table):
        raise NoTable(table)
