import unittest

from answersby.bodies import Body
from answersby.errors import NoBody, NoName
from answersby.names import METHODS
from samples import NO_NAMES, STRANGE, EqualToAll, RefusesAll, deep, misspelt

OF_FLAG_OR_COUNT = ("truth", "length", "has", "like", "unlike", "before", "behind", "hash")
TAKE_OTHER = ("has", "like", "unlike", "before", "behind")
DECLINE = ("like", "unlike", "before", "behind")
ASKED_OF_ONE = ("truth", "size", "hash")
ASKED_OF_TWO = ("member", "like", "unlike", "before", "behind")
YES, NO, FURTHER, DECLINED = ("yes",), ("no",), ("further",), ("decline",)


def nots(many, inner=YES):
    for _ in range(many):
        inner = ("not", inner)
    return inner


def wide(nodes):
    """An expression of 16 or 17 nodes, 4 deep, with its last node at the end."""
    full = ("if", YES, NO, YES)
    last = ("not", NO) if nodes == 17 else NO
    return ("if", full, ("if", YES, full, NO), ("if", YES, NO, last))


class BodyCase(unittest.TestCase):
    def right(self, method, expression):
        body = Body(method, expression)
        self.assertEqual(body.method, method)
        self.assertEqual(body.expression, expression)

    def wrong(self, place, method, expression):
        with self.assertRaises(NoBody) as caught:
            Body(method, expression)
        self.assertEqual(caught.exception.place, place, (method, expression))


class FormsTest(BodyCase):
    def test_words_alone(self):
        for method in OF_FLAG_OR_COUNT:
            for word in ("yes", "no", "raise", "further"):
                self.right(method, (word,))
                self.wrong(0, method, (word, YES))
                self.wrong(0, method, (word, 0))
                self.wrong(0, method, (word, None))
                self.wrong(0, method, word)
                self.wrong(0, method, [word])

    def test_decline_only_where_the_method_may(self):
        for method in OF_FLAG_OR_COUNT:
            if method in DECLINE:
                self.right(method, DECLINED)
                self.wrong(0, method, ("decline", YES))
            else:
                self.wrong(0, method, DECLINED)
                self.wrong(2, method, ("if", YES, DECLINED, NO))

    def test_counts(self):
        for method in ("truth", "length", "like"):
            for number in range(5):
                self.right(method, ("count", number))
            for value in STRANGE + (5, -1, True, False, 10 ** 30, "1", "count", YES, [1]):
                self.wrong(0, method, ("count", value))
            self.wrong(0, method, ("count",))
            self.wrong(0, method, ("count", 1, 2))
            self.wrong(0, method, ("count", 1, None))

    def test_other_words(self):
        for word in STRANGE + (0, 1, True, "got", "done", "wrong", "out", "self", "and", "or", "step", "like"):
            self.wrong(0, "like", (word,))
            self.wrong(0, "like", (word, YES))
            self.wrong(0, "like", (word, YES, YES, YES))
            self.wrong(1, "like", ("not", (word,)))
        for right in ("yes", "no", "raise", "further", "decline"):
            for word in misspelt(right):
                self.wrong(0, "like", (word,))
        for word in misspelt("count"):
            self.wrong(0, "like", (word, 1))
        for word in misspelt("not"):
            self.wrong(0, "like", (word, YES))
        for word in misspelt("if"):
            self.wrong(0, "like", (word, YES, YES, YES))
        for word in misspelt("ask"):
            self.wrong(0, "like", (word, "truth", "self"))

    def test_any_value_as_expression(self):
        for value in NO_NAMES + ("yes", "ask truth self", ["yes"], ["not", YES], {"yes": ()}, deep(5000)):
            self.wrong(0, "like", value)
            self.wrong(0, "hash", value)
            self.wrong(1, "like", ("not", value))
            self.wrong(3, "like", ("if", YES, NO, value))

    def test_numbers_of_parts(self):
        for parts in ((), (YES, NO), (YES, NO, YES)):
            self.wrong(0, "like", ("not", *parts))
        for parts in ((), (YES,), (YES, NO), (YES, NO, YES, NO)):
            self.wrong(0, "like", ("if", *parts))
        self.right("like", ("not", YES))
        self.right("like", ("if", YES, NO, YES))
        self.right("truth", ("if", ("ask", "size", "self"), ("not", ("raise",)), ("count", 2)))


class AskTest(BodyCase):
    def test_of_one(self):
        for method in OF_FLAG_OR_COUNT:
            for operation in ASKED_OF_ONE:
                self.right(method, ("ask", operation, "self"))
                if method in TAKE_OTHER:
                    self.right(method, ("ask", operation, "other"))
                else:
                    self.wrong(0, method, ("ask", operation, "other"))
                self.wrong(0, method, ("ask", operation))
                self.wrong(0, method, ("ask", operation, "self", "other"))

    def test_of_two(self):
        for method in OF_FLAG_OR_COUNT:
            for operation in ASKED_OF_TWO:
                for roles in (("self", "other"), ("other", "self")):
                    if method in TAKE_OTHER:
                        self.right(method, ("ask", operation, *roles))
                    else:
                        self.wrong(0, method, ("ask", operation, *roles))
                for roles in (
                    (), ("self",), ("other",), ("self", "self"), ("other", "other"), ("self", "other", "self"),
                ):
                    self.wrong(0, method, ("ask", operation, *roles))

    def test_operations_that_are_not_asked(self):
        asked = ("each", "turned", "call", "grow", "length", "item", "walk", "back", "has", "plus", "step")
        for operation in STRANGE + asked + (0, True) + tuple(misspelt("truth")) + tuple(misspelt("member")):
            self.wrong(0, "like", ("ask", operation, "self"))
            self.wrong(0, "like", ("ask", operation, "self", "other"))
        self.wrong(0, "like", ("ask",))

    def test_roles(self):
        for role in STRANGE + (0, 1, 2, True, "left", "right", "item", "like", "") + tuple(misspelt("self")):
            self.wrong(0, "like", ("ask", "truth", role))
            self.wrong(0, "like", ("ask", "like", "self", role))
            self.wrong(0, "like", ("ask", "like", role, "other"))
        self.wrong(0, "like", ("ask", "like", EqualToAll(), RefusesAll()))


class TailTest(BodyCase):
    def test_at_the_tail(self):
        for word in (FURTHER, DECLINED):
            self.right("like", word)
            self.right("like", ("if", YES, word, NO))
            self.right("like", ("if", YES, NO, word))
            self.right("like", ("if", YES, word, word))
            self.right("like", ("if", YES, ("if", NO, word, YES), ("if", NO, YES, word)))

    def test_elsewhere(self):
        for word in (FURTHER, DECLINED):
            self.wrong(1, "like", ("not", word))
            self.wrong(1, "like", ("if", word, YES, NO))
            self.wrong(3, "like", ("if", YES, ("not", word), NO))
            self.wrong(3, "like", ("if", ("if", YES, word, NO), YES, NO))
            self.wrong(4, "like", ("if", ("if", YES, NO, word), YES, NO))
            self.wrong(4, "like", ("if", YES, NO, ("not", word)))
            self.wrong(3, "like", ("not", ("if", YES, word, NO)))
            self.wrong(4, "like", ("if", YES, NO, ("if", word, YES, NO)))

    def test_further_for_every_method(self):
        for method in OF_FLAG_OR_COUNT:
            self.right(method, ("if", YES, FURTHER, ("if", NO, YES, FURTHER)))
            self.wrong(1, method, ("not", FURTHER))


class SizeTest(BodyCase):
    def test_six_and_seven_deep(self):
        self.right("like", nots(5))
        self.wrong(6, "like", nots(6))
        self.wrong(6, "like", nots(400))
        self.right("like", ("if", YES, nots(4), nots(4)))
        self.wrong(7, "like", ("if", YES, nots(5), nots(5)))
        self.right("like", ("if", nots(4), nots(3), nots(4)))
        self.wrong(15, "like", ("if", nots(4), nots(3), nots(5)))

    def test_deeper_node_that_is_wrong_itself_too(self):
        self.wrong(6, "like", nots(6, inner=None))
        self.wrong(5, "like", nots(5, inner=None))

    def test_sixteen_and_seventeen_nodes(self):
        self.assertEqual(len(Body("like", wide(16)).nodes()), 16)
        self.wrong(16, "like", wide(17))

    def test_what_stands_behind_the_seventeenth_node_does_not_matter(self):
        full = ("if", YES, NO, YES)
        many = ("if", ("if", full, full, full), ("if", full, full, full), None)
        self.wrong(16, "like", many)
        self.wrong(15, "like", ("if", ("if", full, full, full), ("not", None), NO))
        self.wrong(0, "like", ("if", ("if", full, full, full), full))

    def test_a_wide_list_of_parts(self):
        self.wrong(0, "like", ("if",) + (YES,) * 10000)


class PlaceTest(BodyCase):
    def test_the_first_of_several(self):
        self.wrong(1, "like", ("if", None, None, None))
        self.wrong(2, "like", ("if", YES, None, None))
        self.wrong(3, "like", ("if", YES, NO, None))
        self.wrong(0, "like", ("if", None, None))
        self.wrong(2, "like", ("if", ("not", None), None, NO))
        self.wrong(3, "like", ("if", ("not", YES), None, NO))
        self.wrong(5, "like", ("if", ("if", YES, NO, YES), ("count", 5), ("count", 6)))
        self.wrong(4, "like", ("if", ("not", YES), ("if", ("ask", "each", "self"), None, NO), ("maybe",)))

    def test_depth_and_another_wrong_node(self):
        self.wrong(1, "like", ("if", None, nots(9), NO))
        self.wrong(7, "like", ("if", YES, nots(9), None))

    def test_no_name_ahead_of_no_body(self):
        wrong = list(NO_NAMES) + [method for method in METHODS if method not in OF_FLAG_OR_COUNT]
        wrong += ["size", "each", "turned", "member", "step"]
        for method in OF_FLAG_OR_COUNT:
            wrong.extend(word for word in misspelt(method) if word not in METHODS)
        for method in wrong:
            for expression in (YES, None, ("maybe",), RefusesAll()):
                with self.assertRaises(NoName) as caught:
                    Body(method, expression)
                self.assertIs(caught.exception.value, method)


class NodesTest(unittest.TestCase):
    def test_the_example(self):
        body = Body("unlike", ("not", ("ask", "like", "self", "other")))
        self.assertEqual(body.nodes(), [("not", 1), ("ask", "like", "self", "other")])

    def test_one_node(self):
        for expression in (YES, NO, FURTHER, ("raise",), ("count", 3), ("ask", "hash", "self")):
            self.assertEqual(Body("length", expression).nodes(), [expression])

    def test_numbers_of_the_parts(self):
        inner = ("if", ("ask", "size", "self"), ("count", 0), ("not", ("raise",)))
        body = Body("like", ("if", ("not", ("not", NO)), inner, ("if", YES, DECLINED, FURTHER)))
        self.assertEqual(body.nodes(), [
            ("if", 1, 4, 9),
            ("not", 2), ("not", 3), NO,
            ("if", 5, 6, 7), ("ask", "size", "self"), ("count", 0), ("not", 8), ("raise",),
            ("if", 10, 11, 12), YES, DECLINED, FURTHER,
        ])

    def test_each_list_is_new(self):
        body = Body("like", ("not", YES))
        body.nodes().clear()
        self.assertEqual(body.nodes(), [("not", 1), YES])
        self.assertEqual(body.expression, ("not", YES))

    def test_equal(self):
        expression = ("not", ("ask", "like", "self", "other"))
        body = Body("unlike", expression)
        self.assertTrue(body == Body("unlike", ("not", ("ask", "like", "self", "other"))))
        self.assertFalse(body != Body("unlike", expression))
        self.assertFalse(body == Body("like", expression))
        self.assertFalse(body == Body("unlike", ("not", ("ask", "like", "other", "self"))))
        for value in (None, "unlike", expression, ("unlike", expression), object(), Body):
            self.assertIs(body == value, False)
            self.assertIs(body != value, True)

    def test_arguments_by_name(self):
        self.assertEqual(Body(expression=YES, method="has"), Body("has", YES))
        self.assertEqual(Body("has", expression=YES), Body("has", YES))
        with self.assertRaises(NoBody) as caught:
            Body(expression=None, method="has")
        self.assertEqual(caught.exception.place, 0)
