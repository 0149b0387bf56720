import unittest

from answersby.bodies import Body
from answersby.books import Book
from answersby.errors import NoFlag, NoName, NoScene, NoScript
from answersby.names import METHODS, OPERATIONS, outcomes_of
from answersby.plays import Play, called
from answersby.scenes import Scene
from answersby.tables import Table
from samples import NO_NAMES, STRANGE, EqualToAll, RefusesAll, deep
from scenery import one, three

WALK = (0, "walk", "left", None)
STEP = (0, "step", "left", "walk")
LIKE = (2, "like", "item", 1)


def told(play):
    return list(play), play.end(), play.waits()


def members():
    return three({(0, "walk"): "native", (2, "like"): "native"})


class PlayTest(unittest.TestCase):
    def check(self, play, log, end, waits):
        self.assertEqual(list(play), log)
        self.assertEqual(play.listed(), log)
        self.assertEqual(len(play), len(log))
        self.assertEqual((play.end(), play.waits()), (end, waits))

    def test_member(self):
        scene = members()
        self.check(Play(scene, "member", []), [], None, WALK)
        self.check(Play(scene, "member", ["walker"]), [(WALK, "walker")], None, STEP)
        log = [(WALK, "walker"), (STEP, "other"), (LIKE, "no"), (STEP, "other")]
        self.check(Play(scene, "member", ["walker", "other", "no", "other"]), log, None, LIKE)
        script = ["walker", "other", "no", "other", "yes"]
        self.check(Play(scene, "member", script), [*log, (LIKE, "yes")], ("yes",), None)
        self.check(Play(scene, "member", ["raise"]), [(WALK, "raise")], ("raised", "walk"), None)

    def test_an_end_without_a_call(self):
        self.check(Play(one(), "size", []), [], ("refused", "size"), None)
        self.check(Play(one(), "truth", []), [], ("yes",), None)

    def test_one_operand(self):
        entries = {method: "native" for method in METHODS}
        scene = one(entries)
        cases = [
            ("truth", ["no"], ["truth"], ("no",)), ("size", [3], ["length"], ("count", 3)),
            ("each", ["walker", "same", "out"], ["walk", "step", "step"], ("done",)),
            ("turned", ["walker", "out"], ["back", "step"], ("done",)),
            ("hash", [0], ["hash"], ("count", 0)), ("call", ["got"], ["call"], ("got",)),
        ]
        for exchanged in (False, True):
            for operation, script, methods, end in cases:
                play = Play(scene, operation, script, exchanged=exchanged)
                self.assertEqual([call[:3] for call, _ in play], [(int(exchanged), name, "left") for name in methods])
                self.assertEqual([outcome for _, outcome in play], script)
                self.assertEqual((play.end(), play.waits()), (end, None))

    def test_two_operands(self):
        scene = three({(operand, method): "native" for operand in (0, 1) for method in METHODS})
        cases = [
            ("member", ["yes"], [(0, "has")], ("yes",)), ("like", ["decline", "no"], [(0, "like"), (1, "like")], ("no",)),
            ("unlike", ["decline", "yes"], [(0, "unlike"), (0, "like")], ("no",)),
            ("before", ["decline", "yes"], [(0, "before"), (1, "behind")], ("yes",)),
            ("behind", ["decline", "decline"], [(0, "behind"), (1, "before")], ("refused", "behind")),
            ("grow", ["decline", "got"], [(0, "grow"), (0, "plus")], ("got",)),
        ]
        names = ("left", "right")
        for exchanged in (False, True):
            for operation, script, calls, end in cases:
                turned = [(1 - operand if exchanged else operand, method) for operand, method in calls]
                wanted = [(operand, method, names[operand], 1 - operand) for operand, method in turned]
                play = Play(scene, operation, script, exchanged=exchanged)
                self.check(play, list(zip(wanted, script)), end, None)

    def test_the_example_of_the_document(self):
        table = Table(Book())
        table.add("bag")
        table["bag", "item"] = "native"
        play = Play(Scene(table, "bag"), "member", ["other"])
        wanted = [((0, "item", "bag", "first"), "other")], (0, "item", "bag", "up"), None
        self.assertEqual((list(play), play.waits(), play.end()), wanted)

    def test_iterated_again_and_again(self):
        play = Play(members(), "member", ["walker", "other"])
        self.assertEqual(list(zip(play, play)), [(row, row) for row in play.listed()])

    def test_by_position_and_by_name(self):
        scene = three({(1, "like"): "native"})
        wanted = told(Play(scene, "like", ["yes"], exchanged=True))
        self.assertEqual(wanted, ([((1, "like", "right", 0), "yes")], ("yes",), None))
        self.assertEqual(told(Play(exchanged=True, script=["yes"], operation="like", scene=scene)), wanted)
        self.assertEqual(called(script=[], operation="like", scene=scene), [(1, "like", "right", 0)])
        with self.assertRaises(TypeError):
            Play(scene, "like", ["yes"], True)

    def test_lists_are_new_and_copied(self):
        script = ["walker", "other"]
        play = Play(members(), "member", script)
        wanted = told(play)
        script[0] = "raise"
        script.append("no")
        play.listed().clear()
        self.assertEqual(told(play), wanted)
        self.assertEqual(script, ["raise", "other", "no"])

    def test_the_play_keeps_the_scene(self):
        table = Table(Book())
        table.add("bag")
        table["bag", "item"] = "native"
        scene = Scene(table, "bag")
        play = Play(scene, "member", ["other"])
        table["bag", "item"] = "blocked"
        self.assertEqual(play.waits(), (0, "item", "bag", "up"))


class CalledTest(unittest.TestCase):
    def test_calls(self):
        scene = members()
        self.assertEqual(called(scene, "member", []), [WALK])
        self.assertEqual(called(scene, "member", ["walker", "other"]), [WALK, STEP, LIKE])
        self.assertEqual(called(scene, "member", ["walker", "other", "no", "same"]), [WALK, STEP, LIKE, STEP])
        self.assertEqual(called(scene, "member", ["wrong"]), [WALK])
        self.assertEqual(called(one(), "size", []), [])

    def test_called_has_no_exchanged(self):
        with self.assertRaises(TypeError):
            called(members(), "member", [], exchanged=True)


class ErrorsTest(unittest.TestCase):
    def refused(self, index, scene, operation, script):
        for make in (Play, called):
            with self.assertRaises(NoScript) as caught:
                make(scene, operation, script)
            self.assertIs(type(caught.exception.index), type(index))
            self.assertEqual(caught.exception.index, index)

    def test_no_scene_name_flag_script_in_this_order(self):
        for value in NO_NAMES:
            for make in (Play, called):
                with self.assertRaises(NoScene) as caught:
                    make(value, None, None)
                self.assertIs(caught.exception.value, value)
                with self.assertRaises(NoName) as caught:
                    make(one(), value, None)
                self.assertIs(caught.exception.value, value)
        for value in STRANGE + (0, 1, 2):
            with self.assertRaises(NoFlag) as caught:
                Play(one(), "like", None, exchanged=value)
            self.assertIs(caught.exception.value, value)
        with self.assertRaises(NoName):
            Play(one(), "x", [], exchanged=1)

    def test_no_list(self):
        for value in NO_NAMES + (("yes",), "yes", {"yes": 1}, iter(["yes"])):
            if not isinstance(value, list):
                self.refused(None, one({"truth": "native"}), "truth", value)
                self.refused(None, one(), "truth", value)

    def test_no_outcomes(self):
        scenes = [
            (one({"truth": "native"}), "truth", [], "truth"), (one({"length": "native"}), "size", [], "length"),
            (one({"call": "native"}), "call", [], "call"), (one({"item": "native"}), "each", ["same"], "item"),
            (one({"walk": "native"}), "each", [], "walk"), (one({"walk": "native"}), "each", ["walker"], "step"),
            (three({(0, "like"): "native", (1, "like"): "native"}), "like", ["decline"], "like"),
        ]
        for scene, operation, begin, word in scenes:
            words = {outcome for method in (*METHODS, "step") for outcome in outcomes_of(method)}
            wrong = [outcome for outcome in words if outcome not in outcomes_of(word)]
            for value in (*STRANGE, *wrong, -1, 5, True, False, 1.0, EqualToAll(), RefusesAll(), deep(2000)):
                self.refused(len(begin), scene, operation, [*begin, value])
                self.refused(len(begin), scene, operation, [*begin, value, value])
                self.refused(len(begin), scene, operation, [*begin, value, "yes"])

    def test_true_is_not_1(self):
        scene = one({"length": "native", "hash": "native"})
        self.assertEqual(Play(scene, "hash", [1]).end(), ("count", 1))
        for value in (True, False):
            self.refused(0, scene, "hash", [value])
            self.refused(0, scene, "size", [value])

    def test_behind_the_end(self):
        scene = one({"truth": "native"})
        for operation in OPERATIONS:
            if operation != "truth":
                for value in ("yes", "raise", None, 0, RefusesAll()):
                    self.refused(0, scene, operation, [value])
        for value in ("yes", "raise", None, RefusesAll()):
            self.refused(1, scene, "truth", ["yes", value])
            self.refused(1, scene, "truth", ["raise", value, "yes"])

    def test_bodies_take_no_outcome(self):
        scene = one({"truth": Body("truth", ("ask", "hash", "self")), "hash": "native"})
        self.refused(0, scene, "truth", ["yes"])
        self.assertEqual(Play(scene, "truth", [2]).end(), ("wrong", "truth"))
