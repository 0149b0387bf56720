"""The errors of the package.

Each one keeps its argument in the field of that name. The messages are left to
Python: the argument may be any value, also one that cannot be shown.
"""


class AnswerError(ValueError):
    """The base class of the errors about what was given."""


class NoName(AnswerError):
    """What was given is not a name that may stand there."""

    def __init__(self, value):
        self.value = value


class NoWays(AnswerError):
    """What was given are no ways of the operation."""

    def __init__(self, operation):
        self.operation = operation


class NoFlag(AnswerError):
    """What was given is neither True nor False."""

    def __init__(self, value):
        self.value = value


class NoBook(AnswerError):
    """What was given is no Book."""

    def __init__(self, value):
        self.value = value


class NoBody(AnswerError):
    """The node with this number makes the expression no body."""

    def __init__(self, place):
        self.place = place


class NoEntry(AnswerError):
    """What was given is no entry for the method."""

    def __init__(self, method):
        self.method = method


class NoTable(AnswerError):
    """What was given is no Table."""

    def __init__(self, value):
        self.value = value


class NoOperand(AnswerError):
    """What was given is no operand."""

    def __init__(self, value):
        self.value = value


class NoScene(AnswerError):
    """What was given is no Scene."""

    def __init__(self, value):
        self.value = value


class NoScript(AnswerError):
    """The item with this number makes the list no script."""

    def __init__(self, index):
        self.index = index


class NoNumber(AnswerError):
    """What was given is no number that may stand there."""

    def __init__(self, value):
        self.value = value


class NoMachine(AnswerError):
    """The row with this number makes the rows no machine."""

    def __init__(self, row):
        self.row = row


class NoPair(AnswerError):
    """What was given is no pair of rows."""

    def __init__(self, value):
        self.value = value


class NoPaper(AnswerError):
    """The item with this number makes the pairs no paper."""

    def __init__(self, index):
        self.index = index


class NotNamed(AnswerError):
    """The method is not among the names."""

    def __init__(self, method):
        self.method = method


class NoRelation(AnswerError):
    """What was given is no relation."""

    def __init__(self, value):
        self.value = value


class NoAgreement(AnswerError):
    """What was given is no agreement."""

    def __init__(self, value):
        self.value = value


class NoStock(AnswerError):
    """The item with this number makes the list no stock."""

    def __init__(self, index):
        self.index = index


class NoWish(AnswerError):
    """The item with this number makes the list no list of wishes."""

    def __init__(self, index):
        self.index = index


class NoChoice(AnswerError):
    """What was given is no choice."""

    def __init__(self, value):
        self.value = value


class NoEdit(AnswerError):
    """The item with this number makes the list no list of edits."""

    def __init__(self, index):
        self.index = index


class NoNote(AnswerError):
    """The line with this number makes the text no note."""

    def __init__(self, line):
        self.line = line


class NoClass(KeyError):
    """There is no class of this name."""

    def __init__(self, name):
        self.name = name


class NoOrder(LookupError):
    """The class of this name has no order."""

    def __init__(self, name):
        self.name = name


class Used(RuntimeError):
    """There is a class of this name already."""

    def __init__(self, name):
        self.name = name


class TooMany(OverflowError):
    """There would be more than the limit."""

    def __init__(self, limit):
        self.limit = limit


class Parted(LookupError):
    """The machines part by this script."""

    def __init__(self, script):
        self.script = script


class OutOfStep(RuntimeError):
    """The machines are out of step at this call."""

    def __init__(self, asked):
        self.asked = asked


class Unanswered(KeyError):
    """This call is not among the answers."""

    def __init__(self, asked):
        self.asked = asked


class EditFailed(RuntimeError):
    """The table refused the edit with this number."""

    def __init__(self, index):
        self.index = index
