"""A second writing of runs, by plain recursion, and tables made by chance, to compare with."""

import random

from answersby.bodies import Body
from answersby.books import MENUS, Book
from answersby.errors import NoBody, NoOrder
from answersby.names import METHODS, OPERATIONS
from answersby.scenes import Scene
from answersby.tables import Table

TAKERS = ("has", "like", "unlike", "before", "behind", "grow", "plus")
FLAGS = ("truth", "has", "like", "unlike", "before", "behind")
COUNTS = ("length", "hash")
OTHER = {"yes": "no", "no": "yes"}


class Stop(Exception):
    """The run has ended, or it waits."""

    def __init__(self, end, waits):
        super().__init__()
        self.end = end
        self.waits = waits


def ends(*end):
    raise Stop(end, None)


class Oracle:
    def __init__(self, scene):
        self.table = scene.table()
        self.book = self.table.book()
        self.classes = scene.classes()
        self.names = set()
        self.looked = set()

    def run(self, operation, script, exchanged=False):
        """The tuple (calls, end, waiting call) of a run behind a script."""
        self.script = list(script)
        self.calls = []
        self.open = []
        self.entered = 0
        self.asking = 0
        a, b = (1, 0) if exchanged else (0, 1)
        if OPERATIONS.index(operation) < 6:
            b = None
        try:
            answer = self.operation(operation, a, b)
            end = ("count", answer) if isinstance(answer, int) else (answer,)
            return self.calls, end, None
        except Stop as stop:
            return self.calls, stop.end, stop.waits

    def lookup(self, operand, method, behind=None):
        order = self.table.order(self.classes[operand])
        if behind is None:
            self.names.add((operand, method))
            if method == "hash" and self.book.bars_hash:
                self.names.add((operand, "like"))
        else:
            order = order[order.index(behind) + 1:]
        for name in order:
            self.looked.add((name, method))
            entry = self.table[name, method]
            if method == "hash" and self.book.bars_hash:
                self.looked.add((name, "like"))
                like = self.table[name, "like"]
                if entry is None and like is not None and like != "blocked":
                    return name, "barred"
            if entry is not None:
                return name, entry
        return None

    def native(self, *call):
        if len(self.calls) == len(self.script):
            raise Stop(None, call)
        outcome = self.script[len(self.calls)]
        self.calls.append(call)
        self.entered = 0
        if outcome == "raise":
            ends("raised", call[1])
        if outcome == "wrong":
            ends("wrong", call[1])
        return outcome

    def method(self, found, operand, method, other, refused):
        owner, entry = found
        if isinstance(entry, Body):
            return self.body(entry, owner, method, operand, other)
        if entry == "blocked":
            ends("refused", refused)
        if entry == "barred":
            ends("barred", owner)
        return self.native(operand, method, owner, other)

    def body(self, body, *key):
        if key in self.open:
            ends("loop", tuple(self.open[self.open.index(key):]))
        if len(self.open) == 40 or self.entered == 40:
            ends("deep")
        self.open.append(key)
        self.entered += 1
        answer = self.evaluate(body.expression, key)
        if answer != "decline" and isinstance(answer, int) != (key[1] in COUNTS):
            ends("wrong", key[1])
        self.open.pop()
        return answer

    def evaluate(self, expression, key):
        owner, method, operand, other = key
        word, *parts = expression
        roles = {"self": operand, "other": other}
        if word == "count":
            return parts[0]
        if word == "raise":
            ends("raised", method)
        if word == "ask":
            return self.operation(parts[0], roles[parts[1]], roles[parts[2]] if len(parts) == 3 else None)
        if word in ("not", "if"):
            answer = self.evaluate(parts[0], key)
            if answer not in OTHER:
                ends("wrong", method)
            if word == "not":
                return OTHER[answer]
            return self.evaluate(parts[1] if answer == "yes" else parts[2], key)
        if word == "further":
            found = self.lookup(operand, method, owner)
            if found is None:
                ends("refused", method)
            return self.method(found, operand, method, other, method)
        return word

    def operation(self, operation, a, b):
        for way in self.book[operation]:
            turned = {"before": "behind", "behind": "before"}.get(operation, operation)
            operand, method, other = {
                "own": (a, operation, b), "turned": (b, turned, a), "like": (a, "like", b),
                "turned_like": (b, "like", a), "count": (a, "length", None),
            }.get(way, (a, way, b if way in TAKERS else None))
            found = self.lookup(operand, method)
            if found is None:
                continue
            if way in ("walk", "back", "item"):
                if found[1] == "blocked":
                    ends("refused", operation)
                return self.items(operation, way, a, b, found[0])
            answer = self.method(found, operand, method, other, operation)
            if answer == "decline":
                continue
            if way == "count":
                return self.count_down(a, answer)
            if operation == "truth" and way == "length":
                return "yes" if answer else "no"
            if operation == "unlike" and way in ("like", "turned_like"):
                return OTHER[answer]
            return answer
        if operation == "truth" and self.book.ends_true:
            return "yes"
        if operation in ("like", "unlike") and self.book.ends_same:
            return {"like": "no", "unlike": "yes"}[operation]
        return ends("refused", operation)

    def items(self, operation, way, a, b, owner):
        if way == "item":
            calls = [(a, "item", owner, "first"), (a, "item", owner, "up")]
            outcome = self.native(*calls[0])
        else:
            calls = [(a, way, owner, None), (a, "step", owner, way)]
            outcome = self.native(*calls[0])
        if operation == "member" and self.asking:
            ends("deep")
        if way != "item":
            outcome = self.native(*calls[1])
        while outcome != "out":
            if operation == "member":
                if outcome == "same":
                    return "yes"
                self.asking += 1
                if self.operation("like", 2, b) == "yes":
                    self.asking -= 1
                    return "yes"
                self.asking -= 1
            outcome = self.native(*calls[1])
        return "no" if operation == "member" else "done"

    def count_down(self, a, length):
        if length:
            found = self.lookup(a, "item")
            if found is None or found[1] == "blocked":
                ends("refused", "turned")
            for index in range(length - 1, -1, -1):
                if self.native(a, "item", found[0], index) == "out":
                    break
        return "done"


def chance_expression(chance, method, depth, tail):
    """An expression, which may still be too deep or have too many nodes for a body."""
    roles = ["self", "other"] if method in TAKERS else ["self"]
    words = ["yes", "no", *["ask"] * 5, "not", *["if"] * 4] + ["raise", "count"] * (chance.random() < 0.1)
    if tail:
        words += ["further", "further"] + ["decline"] * (method in TAKERS[1:])
    if method in COUNTS and tail:
        words = ["count", "ask", "if", "if", "further"]
    word = chance.choice(words if depth > 1 else [word for word in words if word not in ("not", "if")])
    if word == "count":
        return word, chance.randrange(5)
    if word == "ask":
        if len(roles) == 2 and chance.random() < 0.6:
            chance.shuffle(roles)
            return "ask", chance.choice(["member", "like", "unlike", "before", "behind"]), *roles
        asked = ["size", "hash"] if method in COUNTS and tail else ["truth", "truth", "size", "hash"]
        return "ask", chance.choice(asked), chance.choice(roles)
    if word == "not":
        return word, chance_expression(chance, method, depth - 1, False)
    if word == "if":
        tails = (False, tail, tail)
        return word, *[chance_expression(chance, method, depth - 1, at_tail) for at_tail in tails]
    return (word,)


def chance_body(chance, method):
    while True:
        try:
            return Body(method, chance_expression(chance, method, chance.randint(1, 6), True))
        except NoBody:
            pass


def chance_book(chance):
    book = Book()
    for operation in OPERATIONS:
        if chance.random() < 0.3:
            menu = list(MENUS[operation])
            chance.shuffle(menu)
            book[operation] = tuple(menu[:chance.randint(0, len(menu))])
    for word in ("bars_hash", "ends_same", "ends_true"):
        book.set_flag(word, chance.random() < 0.6)
    return book


def chance_entry(chance, method, bodied):
    if method in bodied and chance.random() < 0.8:
        return chance_body(chance, method)
    return "blocked" if chance.random() < 0.1 else "native"


def chance_table(chance, many, *, entries=0.5, bodies=3, rooted=False):
    """A table of so many classes; so many of the methods may have bodies.

    If it is rooted, all classes are heirs of one that has all methods, none of them a body.
    """
    table = Table(chance_book(chance))
    names = ["a", "b", "c", "d", "e", "f", "g", "h"][:many]
    bodied = chance.sample(FLAGS + COUNTS, bodies)
    for at, name in enumerate(names):
        bases = chance.sample(names[:at], min(at, chance.choice((0, 1, 1, 2)))) or names[:1] * (rooted and at > 0)
        try:
            table.add(name, *bases)
        except NoOrder:
            table.add(name)
        for method in METHODS:
            if rooted and at == 0:
                table[name, method] = "native"
            elif chance.random() < entries:
                table[name, method] = chance_entry(chance, method, bodied)
    return table


def chance_scene(seed, **wanted):
    chance = random.Random(seed)
    table = chance_table(chance, chance.randint(1, 5), **wanted)
    return Scene(table, *[chance.choice(table.listed()) for _ in range(3)])


def crowded_scene(seed):
    """A scene whose runs of like have very many states: bodies that open others behind calls."""
    chance = random.Random(seed)

    def asks():
        return ("ask", chance.choice(("member", "like", "unlike", "before", "behind")), *chance.sample(("self", "other"), 2))

    table = Table(Book())
    for at, name in enumerate("hgfedcba"):
        table.add(name, *"hgfedcba"[max(at - 1, 0):at])
        table[name, "truth"] = "native"
        for method in ("has", "like", "unlike", "before", "behind"):
            test = ("ask", "truth", chance.choice(("self", "other")))
            first = chance.choice((asks(), ("further",)))
            body = Body(method, ("if", test, first, ("if", asks(), asks(), ("further",))))
            table[name, method] = body if chance.random() < 0.9 else "native"
    return Scene(table, "a", "b", "c")
