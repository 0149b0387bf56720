"""The methods with their outcomes, and the operations."""

from answersby.checks import is_number, is_one_of
from answersby.errors import NoName

METHODS = (
    "truth", "length", "item", "walk", "back", "has", "like", "unlike",
    "before", "behind", "hash", "grow", "plus", "call",
)
OPERATIONS = (
    "truth", "size", "each", "turned", "hash", "call",
    "member", "like", "unlike", "before", "behind", "grow",
)
MOST_COUNT = 4

KINDS = {
    "truth": "flag",
    "length": "count",
    "item": "item",
    "walk": "walker",
    "back": "walker",
    "has": "flag",
    "like": "flag",
    "unlike": "flag",
    "before": "flag",
    "behind": "flag",
    "hash": "count",
    "grow": "any",
    "plus": "any",
    "call": "any",
}
OTHER_TAKERS = ("has", "like", "unlike", "before", "behind", "grow", "plus")
DECLINERS = ("like", "unlike", "before", "behind", "grow", "plus")
ONE_OPERAND = ("truth", "size", "each", "turned", "hash", "call")

# A count answers with numbers, which outcomes_of makes out of MOST_COUNT.
ANSWERS = {
    "flag": ("yes", "no"),
    "item": ("same", "other", "out"),
    "walker": ("walker",),
    "any": ("got",),
}
WRONG_KINDS = ("flag", "count", "walker")


def check_method(method):
    """Raises NoName(method) unless it is a method (any value)."""
    if not is_one_of(method, METHODS):
        raise NoName(method)


def check_operation(operation):
    """Raises NoName(operation) unless it is an operation (any value)."""
    if not is_one_of(operation, OPERATIONS):
        raise NoName(operation)


def kind_of(method):
    """The kind of a method."""
    check_method(method)
    return KINDS[method]


def takes_other(method):
    """Whether a method takes another operand."""
    check_method(method)
    return method in OTHER_TAKERS


def may_decline(method):
    """Whether a method may decline."""
    check_method(method)
    return method in DECLINERS


def is_count(value):
    """Whether any value is a number from 0 to MOST_COUNT."""
    return is_number(value) and 0 <= value <= MOST_COUNT


def outcomes_of(word):
    """The outcomes of a method or of "step", in their order."""
    # A step has the outcomes of an item: it hands out one item of the walker.
    method = "item" if is_one_of(word, ("step",)) else word
    kind = kind_of(method)
    answers = tuple(range(MOST_COUNT + 1)) if kind == "count" else ANSWERS[kind]
    wrong = ("wrong",) if kind in WRONG_KINDS else ()
    decline = ("decline",) if may_decline(method) else ()
    return (*answers, *wrong, *decline, "raise")


def is_outcome(word, value):
    """Whether any value is an outcome of a method or of "step"."""
    outcomes = outcomes_of(word)
    # What is neither text nor number might call itself equal to an outcome.
    return (isinstance(value, str) or is_number(value)) and value in outcomes


def operands_of(operation):
    """The number of operands of an operation."""
    check_operation(operation)
    return 1 if operation in ONE_OPERAND else 2
