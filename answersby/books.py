"""Books: which ways each operation tries, and three flags."""

from answersby.checks import check_flag, is_one_of
from answersby.errors import NoBook, NoName, NoWays
from answersby.names import OPERATIONS, check_operation

MENUS = {
    "truth": ("truth", "length"),
    "size": ("length",),
    "each": ("walk", "item"),
    "turned": ("back", "count"),
    "hash": ("hash",),
    "call": ("call",),
    "member": ("has", "walk", "item"),
    "like": ("own", "turned"),
    "unlike": ("own", "like", "turned", "turned_like"),
    "before": ("own", "turned"),
    "behind": ("own", "turned"),
    "grow": ("grow", "plus"),
}
FLAGS = ("bars_hash", "ends_same", "ends_true")


def are_ways(operation, value):
    """Whether any value is a tuple of different ways of the operation."""
    if not isinstance(value, tuple):
        return False
    if not all([is_one_of(way, MENUS[operation]) for way in value]):
        return False
    return len(set(value)) == len(value)


class Book:
    """The ways of all operations, and the flags."""

    def __init__(self):
        self._ways = {operation: MENUS[operation] for operation in OPERATIONS}
        self._flags = {word: True for word in FLAGS}

    @staticmethod
    def full():
        """A new full book."""
        return Book()

    @staticmethod
    def bare():
        """A new book with the first way of each menu, and no flag set."""
        book = Book()
        for operation in OPERATIONS:
            book[operation] = MENUS[operation][:1]
        for word in FLAGS:
            book.set_flag(word, False)
        return book

    def __getitem__(self, operation):
        check_operation(operation)
        return self._ways[operation]

    def __setitem__(self, operation, ways):
        check_operation(operation)
        if not are_ways(operation, ways):
            raise NoWays(operation)
        self._ways[operation] = tuple(ways)

    @property
    def bars_hash(self):
        """Whether a class that has like, but not hash, bars hash."""
        return self._flags["bars_hash"]

    @bars_hash.setter
    def bars_hash(self, value):
        self.set_flag("bars_hash", value)

    @property
    def ends_same(self):
        """Whether like and unlike end by sameness."""
        return self._flags["ends_same"]

    @ends_same.setter
    def ends_same(self, value):
        self.set_flag("ends_same", value)

    @property
    def ends_true(self):
        """Whether truth ends with yes."""
        return self._flags["ends_true"]

    @ends_true.setter
    def ends_true(self, value):
        self.set_flag("ends_true", value)

    def set_flag(self, word, value):
        """Sets the flag of this name."""
        if not is_one_of(word, FLAGS):
            raise NoName(word)
        check_flag(value)
        self._flags[word] = value

    def twin(self):
        """An equal book that goes on by itself."""
        book = Book()
        book._ways = dict(self._ways)
        book._flags = dict(self._flags)
        return book

    def listed(self):
        """The list of the operations."""
        return list(self._ways)

    def __eq__(self, other):
        return isinstance(other, Book) and self._ways == other._ways and self._flags == other._flags

    def __iter__(self):
        return iter(self._ways)

    def __len__(self):
        return len(self._ways)


def check_book(book):
    """Raises NoBook(book) unless it is a Book (any value)."""
    if not isinstance(book, Book):
        raise NoBook(book)
