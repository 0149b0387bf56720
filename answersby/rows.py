"""The rows of machines: which values are rows, and how they are numbered."""

from answersby.checks import is_number, is_one_of, is_word
from answersby.names import METHODS, MOST_COUNT, OPERATIONS, is_count, outcomes_of, takes_other
from answersby.scenes import is_operand

ENDS_ALONE = ("yes", "no", "done", "got", "deep")


def _is_other(operand, method, value):
    """Whether any value stands for the other operand of a method on this operand."""
    if takes_other(method):
        return is_operand(value) and value != operand
    return value is None


def _is_at(operand, method, value):
    """Whether any value may stand at the end of a call."""
    if method == "step":
        return is_one_of(value, ("walk", "back"))
    if method == "item":
        return is_one_of(value, ("first", "up")) or is_number(value) and 0 <= value < MOST_COUNT
    return _is_other(operand, method, value)


def is_call(value):
    """Whether any value is a call."""
    if not isinstance(value, tuple) or len(value) != 4:
        return False
    operand, method, owner, at = value
    if not is_operand(operand) or not is_one_of(method, (*METHODS, "step")):
        return False
    return is_word(owner) and _is_at(operand, method, at)


def _is_key(value):
    """Whether any value is the key of an open body in a ring."""
    if not isinstance(value, tuple) or len(value) != 4:
        return False
    owner, method, operand, other = value
    if not is_word(owner) or not is_one_of(method, METHODS):
        return False
    return is_operand(operand) and _is_other(operand, method, other)


def _is_ring(value):
    if not isinstance(value, tuple) or not value:
        return False
    return all([_is_key(key) for key in value])


def _is_told(word, value):
    """Whether any value may stand behind the word of an end."""
    if word == "count":
        return is_count(value)
    if word == "refused":
        return is_one_of(value, OPERATIONS) or is_one_of(value, METHODS)
    if word == "barred":
        return is_word(value)
    if word == "wrong":
        return is_one_of(value, METHODS)
    if word == "raised":
        return is_one_of(value, (*METHODS, "step"))
    return word == "loop" and _is_ring(value)


def is_end(value):
    """Whether any value is an end."""
    if not isinstance(value, tuple) or not value or not isinstance(value[0], str):
        return False
    if len(value) == 1:
        return value[0] in ENDS_ALONE
    return len(value) == 2 and _is_told(value[0], value[1])


def _are_nexts(method, value, many):
    """Whether any value is a tuple of the rows behind the outcomes of a method."""
    if not isinstance(value, tuple) or len(value) != len(outcomes_of(method)):
        return False
    return all([is_number(number) and 0 <= number < many for number in value])


def is_row(value, many):
    """Whether any value is a row of a machine of so many rows."""
    if not isinstance(value, tuple) or not value or not isinstance(value[0], str):
        return False
    if value[0] == "end":
        return len(value) == 2 and is_end(value[1])
    if value[0] != "call" or len(value) != 3:
        return False
    return is_call(value[1]) and _are_nexts(value[1][1], value[2], many)


def nexts_of(row):
    """The numbers of the rows behind a row."""
    return row[2] if row[0] == "call" else ()


def first_wrong_row(rows):
    """The number of the first item that is no row, or None."""
    many = len(rows)
    for number, row in enumerate(rows):
        if not is_row(row, many):
            return number
    return None


def are_by_breadth(rows):
    """Whether rows are numbered by breadth from row 0."""
    met = 1
    for number, row in enumerate(rows):
        if number == met:
            return False
        for behind in nexts_of(row):
            if behind > met:
                return False
            if behind == met:
                met += 1
    return True
