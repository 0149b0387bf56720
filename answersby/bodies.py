"""Bodies: expressions that a class gives for a method."""

from answersby.checks import is_one_of
from answersby.errors import NoBody, NoName
from answersby.names import is_count, kind_of, may_decline, takes_other

MOST_DEPTH = 6
MOST_NODES = 16

BODY_KINDS = ("flag", "count")
ANSWER_WORDS = ("yes", "no", "raise")
ASKED_OF_ONE = ("truth", "size", "hash")
ASKED_OF_TWO = ("member", "like", "unlike", "before", "behind")
PARTS = {"not": 1, "if": 3}


def check_body_method(method):
    """Raises NoName(method) unless it is a method that bodies are made for (any value)."""
    if kind_of(method) not in BODY_KINDS:
        raise NoName(method)


def _is_role(method, value):
    roles = ("self", "other") if takes_other(method) else ("self",)
    return is_one_of(value, roles)


def _is_ask(method, node):
    if len(node) not in (3, 4):
        return False
    operation, *roles = node[1:]
    if not all([_is_role(method, role) for role in roles]):
        return False
    if len(roles) == 1:
        return is_one_of(operation, ASKED_OF_ONE)
    return is_one_of(operation, ASKED_OF_TWO) and roles[0] != roles[1]


def _is_word_alone(method, word, tail):
    if word == "further":
        return tail
    if word == "decline":
        return tail and may_decline(method)
    return word in ANSWER_WORDS


def _is_node(method, node, tail):
    """Whether any value is right as a node by itself, whatever its parts are."""
    if not isinstance(node, tuple) or not node or not isinstance(node[0], str):
        return False
    word = node[0]
    if word in PARTS:
        return len(node) == 1 + PARTS[word]
    if word == "count":
        return len(node) == 2 and is_count(node[1])
    if word == "ask":
        return _is_ask(method, node)
    return len(node) == 1 and _is_word_alone(method, word, tail)


def _parts(node):
    return node[1:] if node[0] in PARTS else ()


def _tails(node, tail):
    """Whether each part of a node is at the tail."""
    if node[0] == "if":
        return (False, tail, tail)
    return (False,) * len(_parts(node))


def _first_wrong(method, expression):
    """The number of the first wrong node, or None if all are right."""
    waiting = [(expression, 1, True)]
    place = 0
    while waiting:
        node, depth, tail = waiting.pop()
        if place == MOST_NODES or depth > MOST_DEPTH or not _is_node(method, node, tail):
            return place
        parts = [(part, depth + 1, at_tail) for part, at_tail in zip(_parts(node), _tails(node, tail))]
        # Turned round, because the leftmost part is numbered next, and pop takes the last.
        waiting.extend(parts[::-1])
        place += 1
    return None


def _numbered(node, number):
    """The rows of a node that has this number, and of all its parts."""
    rows = []
    numbers = []
    for part in _parts(node):
        at = number + 1 + len(rows)
        numbers.append(at)
        rows.extend(_numbered(part, at))
    head = (node[0], *numbers) if numbers else node
    return [head, *rows]


class Body:
    """An expression for a method; it never changes."""

    def __init__(self, method, expression):
        check_body_method(method)
        place = _first_wrong(method, expression)
        if place is not None:
            raise NoBody(place)
        self.method = method
        self.expression = expression
        # Kept, because a run looks at them again and again.
        self._nodes = _numbered(expression, 0)

    def nodes(self):
        """The nodes, with the numbers of the parts of not and if."""
        return list(self._nodes)

    def __eq__(self, other):
        return isinstance(other, Body) and self.method == other.method and self.expression == other.expression
