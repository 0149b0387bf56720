"""Choices: the cheapest ones of a stock for which all wishes hold."""

from answersby.errors import TooMany
from answersby.scenes import check_scene
from answersby.stocks import check_stock, failing
from answersby.wishes import check_wishes

MOST_CHOICES = 256


def _many_choices(stock):
    many = 1
    for _, options in stock:
        many *= len(options)
    return many


def _all_choices(stock):
    """The choices of a stock, in ascending order."""
    choices = [()]
    for _, options in stock:
        choices = [(*choice, number) for choice in choices for number in range(len(options))]
    return choices


def _cost_of(stock, choice):
    return sum([options[number][0] for number, (_, options) in zip(choice, stock)])


class Choices:
    """The choices of least cost for which all wishes hold, and why no cheaper ones do."""

    def __init__(self, scene, stock, wishes):
        check_scene(scene)
        check_stock(stock)
        check_wishes(wishes)
        if _many_choices(stock) > MOST_CHOICES:
            raise TooMany(MOST_CHOICES)
        by_cost = {}
        for choice in _all_choices(stock):
            by_cost.setdefault(_cost_of(stock, choice), []).append(choice)
        self._choices = []
        self._cost = None
        self._told = {}
        # Dearer choices are not looked at: a machine of one of them may have too many rows.
        for cost in sorted(by_cost):
            if not self._choices:
                self._try_all(scene, stock, wishes, cost, by_cost[cost])

    def _try_all(self, scene, stock, wishes, cost, choices):
        """Tries all choices of one cost; no cheaper one was good."""
        told = {choice: failing(scene, stock, wishes, choice) for choice in choices}
        self._choices = [choice for choice in choices if told[choice] is None]
        if self._choices:
            self._cost = cost
        else:
            self._told = {**self._told, **told}

    @property
    def cost(self):
        """The cost of the choices, or None if there is none."""
        return self._cost

    def listed(self):
        """The list of the choices."""
        return list(self._choices)

    def floor(self):
        """The tuples (choice, index, evidence) of all choices that cost less."""
        rows = []
        for choice in sorted(self._told):
            index, evidence = self._told[choice]
            rows.append((choice, index, None if evidence is None else list(evidence)))
        return rows

    def __iter__(self):
        return iter(self._choices)

    def __len__(self):
        return len(self._choices)
