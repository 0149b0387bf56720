"""Notes: bodies and tables as texts."""

from answersby.bodies import ASKED_OF_TWO, PARTS, Body, check_body_method
from answersby.books import FLAGS, MENUS, Book
from answersby.checks import is_one_of
from answersby.errors import NoBody, NoName, NoNote, NoOrder, NoWays, TooMany, Used
from answersby.names import METHODS, OPERATIONS
from answersby.tables import ENTRY_WORDS, Table, check_table

# A body has at most 16 nodes, and each of them writes at most 4 words.
MOST_WORDS = 64
DIGITS = {"0": 0, "1": 1, "2": 2, "3": 3, "4": 4}


def _words_of(expression):
    """The words of an expression, in their order."""
    words = []
    for part in expression:
        words.extend(_words_of(part) if isinstance(part, tuple) else [str(part)])
    return words


def write_body(body):
    """The words of the expression of a body, as a text."""
    return " ".join(_words_of(body.expression))


def _many_words(words, at):
    """The number of the words of the node that begins at a place and has no parts."""
    if words[at] == "count":
        return 2
    if words[at] != "ask":
        return 1
    asked = words[at + 1:at + 2]
    return 4 if asked and is_one_of(asked[0], ASKED_OF_TWO) else 3


def _read_expression(words, at):
    """The tuple (expression, place behind it) that begins at a place."""
    if at >= len(words):
        raise NoNote(None)
    word = words[at]
    if word not in PARTS:
        behind = at + _many_words(words, at)
        told = [DIGITS.get(part, part) for part in words[at + 1:behind]]
        return ((word, *told), behind)
    node = [word]
    at += 1
    for _ in range(PARTS[word]):
        part, at = _read_expression(words, at)
        node.append(part)
    return (tuple(node), at)


def read_body(method, text):
    """The Body of a method that has this text."""
    check_body_method(method)
    if not isinstance(text, str):
        raise NoNote(None)
    words = text.split(" ")
    if len(words) > MOST_WORDS:
        raise NoNote(None)
    expression, _ = _read_expression(words, 0)
    try:
        body = Body(method, expression)
    except NoBody:
        raise NoNote(None)
    if write_body(body) != text:
        raise NoNote(None)
    return body


def read_entry(method, words):
    """The entry that is written by these words, or None."""
    if len(words) == 1 and is_one_of(words[0], ENTRY_WORDS):
        return words[0]
    if words[:1] != ["body"]:
        return None
    try:
        return read_body(method, " ".join(words[1:]))
    except (NoName, NoNote):
        return None


def _book_lines(book):
    """The lines of a book: its flags, and the ways that a full book does not have."""
    flags = (book.bars_hash, book.ends_same, book.ends_true)
    rows = [["book", *["yes" if flag else "no" for flag in flags]]]
    for operation in book:
        ways = book[operation]
        if ways != MENUS[operation]:
            rows.append(["ways", operation, *ways])
    return [" ".join(row) for row in rows]


def _bases_lines(table):
    """The lines of the classes that have bases."""
    rows = [["bases", name, *table.bases(name)] for name in table]
    return [" ".join(row) for row in rows if len(row) > 2]


def _entry_lines(table):
    """The lines of all entries."""
    lines = []
    for name in table:
        for method, entry in table.entries(name):
            told = f"body {write_body(entry)}" if isinstance(entry, Body) else entry
            lines.append(f"entry {name} {method} {told}")
    return lines


def write_table(table):
    """The note of a table."""
    check_table(table)
    classes = [f"class {name}" for name in table]
    lines = [*_book_lines(table.book()), *classes, *_bases_lines(table), *_entry_lines(table)]
    return "".join([line + "\n" for line in lines])


class Reader:
    """A table that is read line by line."""

    def __init__(self):
        self._table = Table(Book())
        self._bases = {}
        # Where the last line stood in the order of all lines that a table may have.
        self._last = ()

    def take(self, line):
        """Whether a line is right behind those that were taken."""
        words = line.split(" ")
        if not self._last and words[0] != "book":
            return False
        place = self._place(words)
        if place is None or place <= self._last:
            return False
        self._last = place
        return True

    def _place(self, words):
        """Takes what a line tells; its place, or None if it is wrong."""
        word = words[0]
        if word == "book":
            return self._take_flags(words[1:])
        if len(words) == 1:
            return None
        if word == "ways":
            return self._take_ways(words[1], tuple(words[2:]))
        if word == "class":
            return self._take_class(words[1:])
        if word == "bases":
            return self._take_bases(words[1], words[2:])
        if word == "entry" and len(words) > 3:
            return self._take_entry(words[1], words[2], words[3:])
        return None

    def _take_flags(self, words):
        if len(words) != len(FLAGS) or not all([is_one_of(word, ("yes", "no")) for word in words]):
            return None
        book = self._table.book()
        for flag, word in zip(FLAGS, words):
            book.set_flag(flag, word == "yes")
        self._table.set_book(book)
        return (0,)

    def _take_ways(self, operation, ways):
        book = self._table.book()
        try:
            book[operation] = ways
        except (NoName, NoWays):
            return None
        if ways == MENUS[operation]:
            return None
        self._table.set_book(book)
        return (1, OPERATIONS.index(operation))

    def _take_class(self, names):
        if len(names) != 1:
            return None
        try:
            self._table.add(names[0])
        except (NoName, Used, TooMany):
            return None
        return (2, len(self._table))

    def _take_bases(self, name, bases):
        if not bases or not all([word in self._table for word in [name, *bases]]):
            return None
        self._bases[name] = bases
        return (3, self._table.listed().index(name))

    def _take_entry(self, name, method, words):
        if name not in self._table or not is_one_of(method, METHODS):
            return None
        entry = read_entry(method, words)
        if entry is None:
            return None
        self._table[name, method] = entry
        return (4, self._table.listed().index(name), METHODS.index(method))

    def whole(self):
        """The table with all bases; raises NoNote(None) if a class has no order."""
        waiting = dict(self._bases)
        while waiting:
            # A class goes behind its bases; none is free if they stand in a ring.
            free = [name for name in waiting if not any([base in waiting for base in waiting[name]])]
            if not free:
                raise NoNote(None)
            for name in free:
                bases = waiting.pop(name)
                self._give_bases(name, bases)
        return self._table

    def _give_bases(self, name, bases):
        try:
            self._table.set_bases(name, *bases)
        except NoOrder:
            raise NoNote(None)


def read_table(text):
    """The Table that has this note."""
    if not isinstance(text, str) or not text.endswith("\n"):
        raise NoNote(None)
    reader = Reader()
    for number, line in enumerate(text.split("\n")[:-1]):
        if not reader.take(line):
            raise NoNote(number)
    return reader.whole()
