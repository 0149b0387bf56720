import unittest

from answersby.bodies import Body
from answersby.books import MENUS, Book
from answersby.engine import first_state, next_state
from answersby.errors import NoFlag, NoName, NoScene
from answersby.names import METHODS, OPERATIONS, outcomes_of
from answersby.scenes import Scene
from answersby.tables import Table
from samples import NO_NAMES, STRANGE, RefusesAll, misspelt
from scenery import CLASSES, book_of, chain, one, run, states, three

# The operand and the method that each way looks up, if the operation runs on 0 (and 1),
# and what stands at the end of its first call.
TARGETS = {
    ("truth", "truth"): (0, "truth", None),
    ("truth", "length"): (0, "length", None),
    ("size", "length"): (0, "length", None),
    ("each", "walk"): (0, "walk", None),
    ("each", "item"): (0, "item", "first"),
    ("turned", "back"): (0, "back", None),
    ("turned", "count"): (0, "length", None),
    ("hash", "hash"): (0, "hash", None),
    ("call", "call"): (0, "call", None),
    ("member", "has"): (0, "has", 1),
    ("member", "walk"): (0, "walk", None),
    ("member", "item"): (0, "item", "first"),
    ("like", "own"): (0, "like", 1),
    ("like", "turned"): (1, "like", 0),
    ("unlike", "own"): (0, "unlike", 1),
    ("unlike", "like"): (0, "like", 1),
    ("unlike", "turned"): (1, "unlike", 0),
    ("unlike", "turned_like"): (1, "like", 0),
    ("before", "own"): (0, "before", 1),
    ("before", "turned"): (1, "behind", 0),
    ("behind", "own"): (0, "behind", 1),
    ("behind", "turned"): (1, "before", 0),
    ("grow", "grow"): (0, "grow", 1),
    ("grow", "plus"): (0, "plus", 1),
}
SWAP = {0: 1, 1: 0}
OTHER = {"yes": "no", "no": "yes"}
TWO = ("member", "like", "unlike", "before", "behind", "grow")


def only(operation, way):
    """A book in which the operation has this way alone."""
    return book_of({operation: (way,)})


def native(operation, way, book=None):
    operand, method, _ = TARGETS[operation, way]
    return three({(operand, method): "native"}, book or only(operation, way))


def call_of(operation, way):
    operand, method, at = TARGETS[operation, way]
    return (operand, method, CLASSES[operand], at)


class WaysTest(unittest.TestCase):
    def test_every_way_is_listed_here(self):
        self.assertEqual(sorted(TARGETS), sorted((name, way) for name in OPERATIONS for way in MENUS[name]))

    def test_native(self):
        for operation, way in TARGETS:
            for book in (None, Book()):
                scene = native(operation, way, book)
                self.assertEqual(run(scene, operation), [call_of(operation, way)], (operation, way))

    def test_exchanged(self):
        for operation, way in TARGETS:
            operand, method, at = TARGETS[operation, way]
            scene = three({(SWAP[operand], method): "native"}, only(operation, way))
            call = (SWAP[operand], method, CLASSES[SWAP[operand]], SWAP.get(at, at))
            self.assertEqual(run(scene, operation, exchanged=True), [call], (operation, way))

    def test_the_owner_is_named(self):
        for operation, way in TARGETS:
            operand, method, at = TARGETS[operation, way]
            table = Table(only(operation, way))
            table.add("base")
            table.add("mid", "base")
            table.add("low", "mid")
            table.add("no")
            table["base", method] = "native"
            names = ["no", "no", "no"]
            names[operand] = "low"
            self.assertEqual(run(Scene(table, *names), operation), [(operand, method, "base", at)])

    def test_blocked(self):
        for operation, way in TARGETS:
            operand, method, _ = TARGETS[operation, way]
            for book in (Book(), only(operation, way)):
                scene = three({(operand, method): "blocked"}, book)
                self.assertEqual(run(scene, operation), [("refused", operation)], (operation, way))

    def test_blocked_stops_ahead_of_later_ways(self):
        entries = {(operand, method): "native" for operand in (0, 1, 2) for method in METHODS}
        for operation, way in TARGETS:
            operand, method, _ = TARGETS[operation, way]
            ways = MENUS[operation]
            scene = three({**entries, (operand, method): "blocked"}, book_of({operation: ways[ways.index(way):]}))
            self.assertEqual(run(scene, operation), [("refused", operation)], (operation, way))

    def test_missing_methods_lead_to_the_next_way(self):
        for operation, way in TARGETS:
            entries = {}
            later = MENUS[operation][MENUS[operation].index(way):]
            for name in later:
                operand, method, _ = TARGETS[operation, name]
                entries[operand, method] = "native"
            earlier = {TARGETS[operation, name][:2] for name in MENUS[operation] if name not in later}
            if not earlier & set(entries):
                self.assertEqual(run(three(entries), operation), [call_of(operation, way)], (operation, way))

    def test_the_order_of_the_ways_is_that_of_the_book(self):
        for operation, menu in MENUS.items():
            entries = {TARGETS[operation, way][:2]: "native" for way in menu}
            scene = three(entries, book_of({operation: menu[::-1]}))
            self.assertEqual(run(scene, operation), [call_of(operation, menu[-1])])

    def test_decline_leads_to_the_next_way(self):
        everything = {(operand, method): "native" for operand in (0, 1) for method in METHODS}
        for operation in ("like", "unlike", "before", "behind", "grow"):
            menu = MENUS[operation]
            for ways in (menu, menu[::-1], menu[1:], menu[:1]):
                scene = three(everything, book_of({operation: ways}))
                last = {"like": ("no",), "unlike": ("yes",)}.get(operation, ("refused", operation))
                wanted = [call_of(operation, way) for way in ways] + [last]
                self.assertEqual(run(scene, operation, *["decline"] * len(ways)), wanted)

    def test_a_way_is_looked_up_only_if_the_ones_before_declined(self):
        entries = {(0, "before"): "native", (1, "behind"): "blocked"}
        self.assertEqual(run(three(entries), "before", "yes")[-1], ("yes",))
        self.assertEqual(run(three(entries), "before", "decline")[-1], ("refused", "before"))

    def test_no_way_left(self):
        for ends_true in (True, False):
            for ends_same in (True, False):
                book = book_of(ends_true=ends_true, ends_same=ends_same)
                empty = book_of({name: () for name in OPERATIONS}, ends_true=ends_true, ends_same=ends_same)
                for operation in OPERATIONS:
                    wanted = ("refused", operation)
                    if operation == "truth" and ends_true:
                        wanted = ("yes",)
                    if operation in ("like", "unlike") and ends_same:
                        wanted = ("no",) if operation == "like" else ("yes",)
                    for exchanged in (True, False):
                        self.assertEqual(run(three(book=book), operation, exchanged=exchanged), [wanted])
                        self.assertEqual(run(three(book=empty), operation, exchanged=exchanged), [wanted])

    def test_empty_ways_look_nothing_up(self):
        entries = {(operand, method): "blocked" for operand in (0, 1, 2) for method in METHODS}
        scene = three(entries, book_of({name: () for name in OPERATIONS}))
        self.assertEqual(run(scene, "like"), [("no",)])
        self.assertEqual(run(scene, "truth"), [("yes",)])
        self.assertEqual(run(scene, "size"), [("refused", "size")])

    def test_barred(self):
        for entry in ("native", Body("like", ("yes",))):
            table = Table(Book())
            table.add("base")
            table.add("mid", "base")
            table.add("low", "mid")
            table["base", "hash"] = "native"
            table["mid", "like"] = entry
            scene = Scene(table, "low")
            self.assertEqual(run(scene, "hash"), [("barred", "mid")])
            self.assertEqual(run(scene, "hash", exchanged=True), [("barred", "mid")])
            table["mid", "hash"] = "native"
            self.assertEqual(run(Scene(table, "low"), "hash"), [(0, "hash", "mid", None)])
            table["mid", "hash"] = None
            table.set_book(book_of(bars_hash=False))
            self.assertEqual(run(Scene(table, "low"), "hash"), [(0, "hash", "base", None)])


class OutcomesTest(unittest.TestCase):
    def test_wrong_and_raise(self):
        for operation, way in TARGETS:
            method = TARGETS[operation, way][1]
            scene = native(operation, way)
            self.assertEqual(run(scene, operation, "raise")[-1], ("raised", method))
            if "wrong" in outcomes_of(method):
                self.assertEqual(run(scene, operation, "wrong")[-1], ("wrong", method))

    def test_flags(self):
        for operation, way in TARGETS:
            if TARGETS[operation, way][1] in ("truth", "has", "like", "unlike", "before", "behind"):
                for outcome in ("yes", "no"):
                    wanted = OTHER[outcome] if operation == "unlike" and way.endswith("like") else outcome
                    self.assertEqual(run(native(operation, way), operation, outcome)[-1], (wanted,), (operation, way))

    def test_counts(self):
        for outcome in range(5):
            self.assertEqual(run(native("size", "length"), "size", outcome)[-1], ("count", outcome))
            self.assertEqual(run(native("hash", "hash"), "hash", outcome)[-1], ("count", outcome))
            self.assertEqual(run(native("truth", "length"), "truth", outcome)[-1], ("yes",) if outcome else ("no",))

    def test_got(self):
        for operation, way in (("call", "call"), ("grow", "grow"), ("grow", "plus")):
            self.assertEqual(run(native(operation, way), operation, "got")[-1], ("got",))

    def test_walkers(self):
        for operation, way in (("each", "walk"), ("turned", "back")):
            scene = native(operation, way)
            step = (0, "step", "left", way)
            for many in range(4):
                script = ["walker"] + ["same", "other", "other"][:many]
                wanted = [(0, way, "left", None)] + [step] * (many + 1)
                self.assertEqual(run(scene, operation, *script), wanted)
                self.assertEqual(run(scene, operation, *script, "out")[-1], ("done",))
                self.assertEqual(run(scene, operation, *script, "raise")[-1], ("raised", "step"))

    def test_items(self):
        scene = native("each", "item")
        up = (0, "item", "left", "up")
        for many in range(1, 4):
            script = ["same", "other", "other"][:many]
            wanted = [(0, "item", "left", "first")] + [up] * many
            self.assertEqual(run(scene, "each", *script), wanted)
            self.assertEqual(run(scene, "each", *script, "out")[-1], ("done",))
            self.assertEqual(run(scene, "each", *script, "raise")[-1], ("raised", "item"))
        self.assertEqual(run(scene, "each", "out")[-1], ("done",))

    def test_the_owner_of_a_step_is_that_of_the_walker(self):
        scene = chain(3, {("b", "walk"): "native", ("b", "back"): "native", ("c", "walk"): "blocked"})
        self.assertEqual(run(scene, "each", "walker")[-1], (0, "step", "b", "walk"))
        self.assertEqual(run(scene, "turned", "walker")[-1], (0, "step", "b", "back"))
        self.assertEqual(run(scene, "member", "walker", "other")[-1], (0, "step", "b", "walk"))
        scene = chain(3, {("b", "item"): "native", ("c", "item"): "blocked"})
        self.assertEqual(run(scene, "member", "other")[-1], (0, "item", "b", "up"))

    def test_count(self):
        scene = three({(0, "length"): "native", (0, "item"): "native"})
        self.assertEqual(run(scene, "turned", 0)[-1], ("done",))
        for length in range(1, 5):
            calls = [(0, "item", "left", index) for index in range(length - 1, -1, -1)]
            outcomes = ["same", "other", "same", "other"][:length]
            wanted = [(0, "length", "left", None), *calls, ("done",)]
            self.assertEqual(run(scene, "turned", length, *outcomes), wanted)
            for end in range(length):
                self.assertEqual(run(scene, "turned", length, *outcomes[:end], "out")[-1], ("done",))
                self.assertEqual(run(scene, "turned", length, *outcomes[:end], "raise")[-1], ("raised", "item"))

    def test_count_without_item(self):
        for entries in ({}, {(0, "item"): "blocked"}):
            scene = three({(0, "length"): "native", **entries})
            self.assertEqual(run(scene, "turned", 0)[-1], ("done",))
            for length in range(1, 5):
                self.assertEqual(run(scene, "turned", length)[-1], ("refused", "turned"))

    def test_count_by_a_body(self):
        entries = {(0, "length"): Body("length", ("ask", "hash", "self")), (0, "hash"): "native", (0, "item"): "native"}
        wanted = [(0, "hash", "left", None), (0, "item", "left", 1), (0, "item", "left", 0), ("done",)]
        self.assertEqual(run(three(entries), "turned", 2, "other", "other"), wanted)
        self.assertEqual(run(three(entries), "turned", 0)[-1], ("done",))

    def test_count_on_another_class(self):
        scene = chain(3, {("b", "length"): "native", ("c", "item"): "native"})
        self.assertEqual(run(scene, "turned", 2, exchanged=True)[-1], (1, "item", "c", 1))


class MemberTest(unittest.TestCase):
    def both(self):
        """Scenes for walk and item, with the calls and outcomes up to the first item, and the next call."""
        return [
            (three({(0, "walk"): "native"}), ["walker"], (0, "step", "left", "walk")),
            (three({(0, "item"): "native"}), [], (0, "item", "left", "up")),
        ]

    def test_same_other_out(self):
        for scene, begin, call in self.both():
            self.assertEqual(run(scene, "member", *begin, "same")[-1], ("yes",))
            self.assertEqual(run(scene, "member", *begin, "out")[-1], ("no",))
            self.assertEqual(run(scene, "member", *begin, "raise")[-1], ("raised", "step" if begin else "item"))
            self.assertEqual(run(scene, "member", *begin, "other")[-1], call)
            self.assertEqual(run(scene, "member", *begin, "other", "other")[-2:], [call, call])
            self.assertEqual(run(scene, "member", *begin, "other", "same")[-1], ("yes",))
            self.assertEqual(run(scene, "member", *begin, "other", "other", "out")[-1], ("no",))

    def test_like_of_items(self):
        for base, begin, call in self.both():
            table = base.table()
            table["item", "like"] = "native"
            scene = Scene(table, *CLASSES)
            like = (2, "like", "item", 1)
            self.assertEqual(run(scene, "member", *begin, "other")[-1], like)
            self.assertEqual(run(scene, "member", *begin, "other", "yes")[-1], ("yes",))
            self.assertEqual(run(scene, "member", *begin, "other", "no")[-1], call)
            self.assertEqual(run(scene, "member", *begin, "other", "decline")[-1], call)
            self.assertEqual(run(scene, "member", *begin, "other", "wrong")[-1], ("wrong", "like"))
            self.assertEqual(run(scene, "member", *begin, "other", "raise")[-1], ("raised", "like"))
            self.assertEqual(run(scene, "member", *begin, "other", "no", "other")[-1], like)
            self.assertEqual(run(scene, "member", *begin, "other", "no", "other", "no", "out")[-1], ("no",))

    def test_like_of_items_turned(self):
        scene = three({(0, "walk"): "native", (1, "like"): "native"})
        self.assertEqual(run(scene, "member", "walker", "other")[-1], (1, "like", "right", 2))
        self.assertEqual(run(scene, "member", "walker", "other", "yes")[-1], ("yes",))

    def test_like_of_items_refused(self):
        scene = three({(0, "walk"): "native"}, book_of(ends_same=False))
        self.assertEqual(run(scene, "member", "walker", "other")[-1], ("refused", "like"))
        scene = three({(0, "walk"): "native", (2, "like"): "blocked"})
        self.assertEqual(run(scene, "member", "walker", "other")[-1], ("refused", "like"))

    def test_exchanged(self):
        scene = three({(1, "walk"): "native", (2, "like"): "native"})
        wanted = [(1, "walk", "right", None), (1, "step", "right", "walk"), (2, "like", "item", 0)]
        self.assertEqual(run(scene, "member", "walker", "other", exchanged=True), wanted)

    def test_member_within_member(self):
        """An item's like asks whether it is a member of what is sought, or the other way round."""
        for outer in (["walk"], ["item"]):
            for inner, answers in (("walk", ["walker"]), ("item", ["same", "other", "out"])):
                for roles, operand in ((("self", "other"), 2), (("other", "self"), 1)):
                    entries = {(0, outer[0]): "native", (2, "like"): Body("like", ("ask", "member", *roles))}
                    entries[operand, inner] = "native"
                    scene = three(entries)
                    begin = ["walker", "other"] if outer == ["walk"] else ["other"]
                    call = (operand, inner, CLASSES[operand], None if inner == "walk" else "first")
                    self.assertEqual(run(scene, "member", *begin)[-1], call)
                    for answer in answers:
                        self.assertEqual(run(scene, "member", *begin, answer)[-1], ("deep",))
                    self.assertEqual(run(scene, "member", *begin, "raise")[-1], ("raised", inner))
                    if inner == "walk":
                        self.assertEqual(run(scene, "member", *begin, "wrong")[-1], ("wrong", inner))

    def test_member_within_member_by_has(self):
        entries = {(0, "walk"): "native", (2, "like"): Body("like", ("ask", "member", "self", "other"))}
        scene = three({**entries, (2, "has"): "native"})
        self.assertEqual(run(scene, "member", "walker", "other")[-1], (2, "has", "item", 1))
        self.assertEqual(run(scene, "member", "walker", "other", "yes")[-1], ("yes",))
        self.assertEqual(run(scene, "member", "walker", "other", "no", "out")[-1], ("no",))

    def test_member_asked_ahead_of_the_items_is_not_within(self):
        """The outer member runs by has, so it asks for no items."""
        entries = {(0, "has"): Body("has", ("ask", "member", "other", "self")), (1, "walk"): "native"}
        scene = three({**entries, (2, "like"): "native"})
        wanted = [(1, "walk", "right", None), (1, "step", "right", "walk"), (2, "like", "item", 0), ("yes",)]
        self.assertEqual(run(scene, "member", "walker", "other", "yes"), wanted)

    def test_a_member_behind_another_one_is_not_within(self):
        likes = Body("like", ("if", ("ask", "member", "self", "other"), ("no",), ("ask", "member", "self", "other")))
        scene = three({(0, "like"): likes, (0, "item"): "native"})
        first, up = (0, "item", "left", "first"), (0, "item", "left", "up")
        self.assertEqual(run(scene, "like", "out", "other", "same"), [first, first, up, ("yes",)])


class StatesTest(unittest.TestCase):
    def check(self, state):
        self.assertIsInstance(state, tuple)
        if state[0] == "end":
            self.assertEqual(len(state), 2)
            return
        word, call, stack = state
        self.assertEqual((word, len(call)), ("call", 4))
        self.assertIsInstance(stack, tuple)
        for frame in stack:
            self.assertIsInstance(frame, tuple)
            for part in frame:
                self.assertTrue(part is None or isinstance(part, (int, str)) and not isinstance(part, bool), frame)

    def test_forms(self):
        entries = {(operand, method): "native" for operand in (0, 1, 2) for method in METHODS}
        for method in ("like", "has", "before"):
            body = Body(method, ("if", ("ask", "unlike", "other", "self"), ("further",), ("ask", "truth", "self")))
            for scene in (three(entries), three({**entries, (0, method): body, (2, method): body})):
                for operation in OPERATIONS:
                    met = [first_state(scene, operation)]
                    for state in met:
                        self.check(state)
                        if state[0] == "call" and len(met) < 300:
                            met += [next_state(scene, state, outcome) for outcome in outcomes_of(state[1][1])]

    def test_equal_states_go_on_alike(self):
        scene = three({(0, "walk"): "native", (2, "like"): "native"})
        met = states(scene, "member", ["walker", "other", "no", "other", "no"])
        self.assertEqual(met[1], met[3])
        self.assertEqual(met[2], met[4])
        self.assertEqual(met[3], met[5])
        other = three({(0, "walk"): "native", (2, "like"): "native"})
        self.assertEqual(next_state(other, met[1], "other"), met[2])
        self.assertEqual(next_state(scene, met[1], "same"), ("end", ("yes",)))
        self.assertEqual(next_state(scene, met[1], "other"), met[2])

    def test_both_branches_of_an_if_lead_to_equal_states(self):
        asked = ("ask", "like", "self", "other")
        body = Body("like", ("if", ("ask", "before", "self", "other"), asked, asked))
        scene = three({(0, "like"): body, (0, "before"): "native"})
        yes, no = [states(scene, "like", [outcome])[-1] for outcome in ("yes", "no")]
        self.assertEqual(yes, no)

    def test_by_position_and_by_name(self):
        scene = three({(1, "like"): "native"})
        wanted = first_state(scene, "like", exchanged=True)
        self.assertEqual(wanted[1], (1, "like", "right", 0))
        self.assertEqual(first_state(exchanged=True, operation="like", scene=scene), wanted)
        scene = three({(0, "like"): "native", (1, "like"): "native"})
        self.assertEqual(first_state(scene, "like"), first_state(scene, "like", exchanged=False))
        self.assertEqual(first_state(scene, "like")[1], (0, "like", "left", 1))
        self.assertEqual(next_state(outcome="yes", scene=scene, state=wanted), ("end", ("yes",)))
        with self.assertRaises(TypeError):
            first_state(scene, "like", True)

    def test_nothing_handed_in_changes(self):
        scene = three({(0, "like"): Body("like", ("ask", "before", "other", "self")), (1, "before"): "native"})
        table, classes = scene.table(), scene.classes()
        state = first_state(scene, "like")
        copy = ("call", state[1], tuple(state[2]))
        next_state(scene, state, "decline")
        self.assertEqual((scene.table(), scene.classes(), state), (table, classes, copy))


class ErrorsTest(unittest.TestCase):
    def test_no_scene(self):
        for value in NO_NAMES + ("like", Table(Book()), Book(), Scene, ["left"]):
            for operation, exchanged in (("like", False), ("x", False), (None, 1)):
                with self.assertRaises(NoScene) as caught:
                    first_state(value, operation, exchanged=exchanged)
                self.assertIs(caught.exception.value, value)

    def test_no_name(self):
        methods = [method for method in METHODS if method not in OPERATIONS]
        words = [word for name in OPERATIONS for word in misspelt(name) if word not in OPERATIONS]
        for value in (*NO_NAMES, *methods, *words, "step", "own", ("like",)):
            for exchanged in (False, 1, None):
                with self.assertRaises(NoName) as caught:
                    first_state(one(), value, exchanged=exchanged)
                self.assertIs(caught.exception.value, value)

    def test_no_flag(self):
        for value in STRANGE + (0, 1, -1, 2, "True", "yes", RefusesAll()):
            with self.assertRaises(NoFlag) as caught:
                first_state(one(), "like", exchanged=value)
            self.assertIs(caught.exception.value, value)
