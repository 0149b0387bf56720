"""Stocks: entries that a class may be given, and what they cost."""

from answersby.checks import is_number, is_one_of
from answersby.errors import NoChoice, NoStock
from answersby.names import METHODS
from answersby.scenes import check_scene
from answersby.tables import is_entry
from answersby.wishes import check_wishes, tried

MOST_METHODS = 6
MOST_OPTIONS = 4
MOST_COST = 1000


def _is_option(method, value):
    """Whether any value is a tuple (cost, entry) for this method."""
    if not isinstance(value, tuple) or len(value) != 2:
        return False
    cost, entry = value
    if not is_number(cost) or not 0 <= cost <= MOST_COST:
        return False
    return entry is None or is_entry(method, entry)


def _is_stocked(value, earlier):
    """Whether any value is a tuple (method, options); earlier are the methods before it."""
    if not isinstance(value, tuple) or len(value) != 2:
        return False
    method, options = value
    if not is_one_of(method, METHODS) or method in earlier:
        return False
    if not isinstance(options, tuple) or not 1 <= len(options) <= MOST_OPTIONS:
        return False
    return all([_is_option(method, option) for option in options])


def check_stock(stock):
    """Raises NoStock(None) or NoStock(index) unless it is a stock (any value)."""
    if not isinstance(stock, list) or not 1 <= len(stock) <= MOST_METHODS:
        raise NoStock(None)
    earlier = []
    for index, stocked in enumerate(stock):
        if not _is_stocked(stocked, earlier):
            raise NoStock(index)
        earlier.append(stocked[0])


def _check_choice(stock, choice):
    """Raises NoChoice(choice) unless it is a choice (any value)."""
    if not isinstance(choice, tuple) or len(choice) != len(stock):
        raise NoChoice(choice)
    for number, (_, options) in zip(choice, stock):
        if not is_number(number) or not 0 <= number < len(options):
            raise NoChoice(choice)


def _scene_of(scene, stock, choice):
    """The scene of a choice, which was checked."""
    table = scene.table()
    name = scene.classes()[0]
    for number, (method, options) in zip(choice, stock):
        table[name, method] = options[number][1]
    return scene.over(table)


def chosen(scene, stock, choice):
    """The scene of a choice."""
    check_scene(scene)
    check_stock(stock)
    _check_choice(stock, choice)
    return _scene_of(scene, stock, choice)


def failing(scene, stock, wishes, choice):
    """The tuple (index, evidence) of the first wish that does not hold, or None."""
    check_scene(scene)
    check_stock(stock)
    check_wishes(wishes)
    _check_choice(stock, choice)
    scene_then = _scene_of(scene, stock, choice)
    for index, wish in enumerate(wishes):
        holds, evidence = tried(scene_then, wish)
        if not holds:
            return (index, evidence)
    return None
