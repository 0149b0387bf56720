import unittest

from answersby import names
from answersby.errors import NoName
from answersby.names import (
    METHODS, MOST_COUNT, OPERATIONS, is_outcome, kind_of, may_decline, operands_of, outcomes_of, takes_other,
)
from samples import NO_NAMES, EqualToAll, RefusesAll, misspelt

FLAG = ("yes", "no", "wrong", "raise")
FLAG_OR_NOT = ("yes", "no", "wrong", "decline", "raise")
COUNT = (0, 1, 2, 3, 4, "wrong", "raise")
ITEM = ("same", "other", "out", "raise")
WALKER = ("walker", "wrong", "raise")
# method, kind, takes another operand, may decline, outcomes
TABLE = (
    ("truth", "flag", False, False, FLAG),
    ("length", "count", False, False, COUNT),
    ("item", "item", False, False, ITEM),
    ("walk", "walker", False, False, WALKER),
    ("back", "walker", False, False, WALKER),
    ("has", "flag", True, False, FLAG),
    ("like", "flag", True, True, FLAG_OR_NOT),
    ("unlike", "flag", True, True, FLAG_OR_NOT),
    ("before", "flag", True, True, FLAG_OR_NOT),
    ("behind", "flag", True, True, FLAG_OR_NOT),
    ("hash", "count", False, False, COUNT),
    ("grow", "any", True, True, ("got", "decline", "raise")),
    ("plus", "any", True, True, ("got", "decline", "raise")),
    ("call", "any", False, False, ("got", "raise")),
)
OF_ONE = ("truth", "size", "each", "turned", "hash", "call")
OF_TWO = ("member", "like", "unlike", "before", "behind", "grow")


class NamesTest(unittest.TestCase):
    def refused(self, ask, value):
        with self.assertRaises(NoName) as caught:
            ask(value)
        self.assertIs(caught.exception.value, value)

    def test_the_tuples(self):
        self.assertEqual(METHODS, tuple(row[0] for row in TABLE))
        self.assertEqual(OPERATIONS, OF_ONE + OF_TWO)
        self.assertIsInstance(METHODS, tuple)
        self.assertIsInstance(OPERATIONS, tuple)
        self.assertEqual(MOST_COUNT, 4)

    def test_each_method(self):
        for method, kind, other, decline, outcomes in TABLE:
            with self.subTest(method):
                self.assertEqual(kind_of(method), kind)
                self.assertIs(takes_other(method), other)
                self.assertIs(may_decline(method), decline)
                self.assertEqual(outcomes_of(method), outcomes)
                self.assertIsInstance(outcomes_of(method), tuple)

    def test_step(self):
        self.assertEqual(outcomes_of("step"), ITEM)

    def test_operands(self):
        self.assertEqual([operands_of(operation) for operation in OF_ONE], [1] * 6)
        self.assertEqual([operands_of(operation) for operation in OF_TWO], [2] * 6)

    def test_the_example(self):
        self.assertEqual(
            (outcomes_of("like"), outcomes_of("length"), outcomes_of("step"), kind_of("hash")),
            (
                ("yes", "no", "wrong", "decline", "raise"), (0, 1, 2, 3, 4, "wrong", "raise"),
                ("same", "other", "out", "raise"), "count",
            ),
        )

    def test_is_outcome_of_each_outcome(self):
        every = []
        for row in TABLE:
            every.extend(outcome for outcome in row[4] if outcome not in every)
        for word, outcomes in [(row[0], row[4]) for row in TABLE] + [("step", ITEM)]:
            for outcome in every:
                self.assertIs(is_outcome(word, outcome), outcome in outcomes, (word, outcome))

    def test_is_outcome_of_any_value(self):
        values = (
            True, False, None, 1.0, 0.0, 5, -1, 10 ** 30, [], ["yes"], ("yes",), {}, {"yes": 1}, {1}, b"yes", "",
            "yess", "Yes", "step", "like", "1", "0", float("nan"), 1 + 0j, object(), EqualToAll(), RefusesAll(),
        )
        for word in METHODS + ("step",):
            for value in values:
                self.assertIs(is_outcome(word, value), False)

    def test_no_method(self):
        wrong = list(NO_NAMES) + ["step", "size", "each", "turned", "member", "yes", "flag"]
        for method in METHODS:
            wrong.extend(word for word in misspelt(method) if word not in METHODS)
        for value in wrong:
            self.refused(kind_of, value)
            self.refused(takes_other, value)
            self.refused(may_decline, value)
            self.refused(names.check_method, value)

    def test_no_word_with_outcomes(self):
        wrong = list(NO_NAMES) + ["size", "each", "turned", "member", "yes", "flag"]
        for method in METHODS + ("step",):
            wrong.extend(word for word in misspelt(method) if word not in METHODS)
        for value in wrong:
            self.refused(outcomes_of, value)
            self.refused(lambda word: is_outcome(word, "yes"), value)
            self.refused(lambda word: is_outcome(word, []), value)

    def test_no_operation(self):
        wrong = list(NO_NAMES) + ["step", "length", "item", "walk", "back", "has", "plus"]
        for operation in OPERATIONS:
            wrong.extend(misspelt(operation))
        for value in wrong:
            self.refused(operands_of, value)

    def test_arguments_by_name(self):
        self.assertEqual(kind_of(method="item"), "item")
        self.assertIs(takes_other(method="has"), True)
        self.assertIs(may_decline(method="has"), False)
        self.assertEqual(outcomes_of(word="step"), ITEM)
        self.assertIs(is_outcome(value="got", word="call"), True)
        self.assertIs(is_outcome("call", value="decline"), False)
        self.assertEqual(operands_of(operation="grow"), 2)
