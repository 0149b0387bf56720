"""Small scenes, and runs in them, for the tests."""

from answersby.bodies import Body
from answersby.books import Book
from answersby.engine import first_state, next_state
from answersby.scenes import Scene
from answersby.tables import Table

CLASSES = ("left", "right", "item")


def book_of(ways=(), **flags):
    """A full book, but for these ways and flags."""
    book = Book()
    for operation, tried in dict(ways).items():
        book[operation] = tried
    for word, value in flags.items():
        book.set_flag(word, value)
    return book


def three(entries=(), book=None):
    """A scene of the classes left, right and item; entries is a dict of (operand, method)."""
    table = Table(book or Book())
    for name in CLASSES:
        table.add(name)
    for (operand, method), entry in dict(entries).items():
        table[CLASSES[operand], method] = entry
    return Scene(table, *CLASSES)


def one(entries=(), book=None):
    """A scene of the class left alone; entries is a dict of methods."""
    table = Table(book or Book())
    table.add("left")
    for method, entry in dict(entries).items():
        table["left", method] = entry
    return Scene(table, "left")


def chain(many, entries=(), book=None):
    """A scene of the class "a" over "b" over "c" ..; entries is a dict of (class, method)."""
    table = Table(book or Book())
    names = list("abcdefgh")[:many]
    for at in range(many - 1, -1, -1):
        table.add(names[at], *names[at + 1:at + 2])
    for (name, method), entry in dict(entries).items():
        table[name, method] = entry
    return Scene(table, "a")


def states(scene, operation, script=(), exchanged=False):
    """The states of a run behind the beginnings of a script."""
    met = [first_state(scene, operation, exchanged=exchanged)]
    for outcome in script:
        met.append(next_state(scene, met[-1], outcome))
    return met


def run(scene, operation, *script, exchanged=False):
    """The calls and the end of a run, in one list."""
    return [state[1] for state in states(scene, operation, script, exchanged)]


def many_kept():
    """A scene whose machine of like is small, but asks so much that is kept, whatever is answered."""
    asked = {
        "a": [("truth", "self"), ("truth", "other")],
        "b": [("before", "self", "other"), ("before", "other", "self")],
        "c": [("behind", "self", "other"), ("behind", "other", "self")],
        "d": [("member", "self", "other"), ("member", "other", "self")],
    }
    entries = {("e", method): "native" for method in ("length", "before", "behind", "has", "like")}
    for name, (one_asked, other_asked) in asked.items():
        inner = ("if", ("ask", *other_asked), ("further",), ("further",))
        entries[name, "like"] = Body("like", ("if", ("ask", *one_asked), inner, inner))
    return chain(5, entries, book_of({"before": ("own",), "behind": ("own",)}))
