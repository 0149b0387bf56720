import unittest

from answersby import errors
from samples import NO_NAMES

OF_ANSWER_ERROR = {
    "NoName": "value", "NoWays": "operation", "NoFlag": "value", "NoBook": "value", "NoBody": "place",
    "NoEntry": "method", "NoTable": "value", "NoOperand": "value", "NoScene": "value", "NoScript": "index",
    "NoNumber": "value", "NoMachine": "row", "NoPair": "value", "NoPaper": "index", "NotNamed": "method",
    "NoRelation": "value", "NoAgreement": "value", "NoStock": "index", "NoWish": "index", "NoChoice": "value",
    "NoEdit": "index", "NoNote": "line",
}
OTHERS = {
    "NoClass": (KeyError, "name"), "NoOrder": (LookupError, "name"), "Used": (RuntimeError, "name"),
    "TooMany": (OverflowError, "limit"), "Parted": (LookupError, "script"), "OutOfStep": (RuntimeError, "asked"),
    "Unanswered": (KeyError, "asked"), "EditFailed": (RuntimeError, "index"),
}
ROWS = [(name, errors.AnswerError, field) for name, field in OF_ANSWER_ERROR.items()]
ROWS += [(name, base, field) for name, (base, field) in OTHERS.items()]


class ErrorsTest(unittest.TestCase):
    def test_there_are_thirty_and_their_base(self):
        self.assertEqual(len(ROWS), 30)
        defined = [name for name, value in vars(errors).items() if isinstance(value, type)]
        self.assertEqual(sorted(defined), sorted([name for name, _, _ in ROWS] + ["AnswerError"]))

    def test_defined_in_this_file(self):
        for name, _, _ in ROWS:
            self.assertEqual(getattr(errors, name).__module__, "answersby.errors")

    def test_the_base_is_a_value_error(self):
        self.assertEqual(errors.AnswerError.__bases__, (ValueError,))

    def test_the_kind_above_each_and_no_other(self):
        for name, base, _ in ROWS:
            with self.subTest(name):
                self.assertEqual(getattr(errors, name).__mro__[1:], base.__mro__)

    def test_none_is_a_kind_of_another_one(self):
        for name, _, _ in ROWS:
            for other, _, _ in ROWS:
                if name != other:
                    self.assertFalse(issubclass(getattr(errors, name), getattr(errors, other)), (name, other))

    def test_the_field_keeps_any_value(self):
        for name, _, field in ROWS:
            for value in NO_NAMES + ("like", ["a", ["b"]]):
                by_place = getattr(errors, name)(value)
                by_name = getattr(errors, name)(**{field: value})
                self.assertIs(getattr(by_place, field), value)
                self.assertIs(getattr(by_name, field), value)
                self.assertEqual(list(vars(by_place)), [field])

    def test_exactly_one_argument(self):
        for name, _, field in ROWS:
            made = getattr(errors, name)
            for rest, more in (((), {}), ((1, 2), {}), ((1,), {field: 1}), ((), {"wrong": 1})):
                with self.assertRaises(TypeError):
                    made(*rest, **more)

    def test_raised_and_caught(self):
        for name, base, field in ROWS:
            try:
                raise getattr(errors, name)(7)
            except base as error:
                self.assertEqual(getattr(error, field), 7)
