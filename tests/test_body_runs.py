import unittest

from answersby.bodies import Body
from answersby.books import Book
from answersby.names import takes_other
from answersby.scenes import Scene
from answersby.tables import Table
from scenery import CLASSES, book_of, chain, one, run, three

FLAGS = ("truth", "has", "like", "unlike", "before", "behind")
COUNTS = ("length", "hash")
DECLINERS = ("like", "unlike", "before", "behind")
# An operation that asks the method of this name first, on operand 0 (and 1).
OPERATION = {"length": "size", "has": "member"}
ONE = ("truth", "size", "hash")
TWO = ("member", "like", "unlike", "before", "behind")
ASKED_METHOD = {"size": "length", "member": "has"}


def bodied(method, expression, entries=(), book=None):
    """A scene in which the method of the left class is this body."""
    return three({**dict(entries), (0, method): Body(method, expression)}, book)


def run_body(method, expression, *script, entries=(), book=None):
    return run(bodied(method, expression, entries, book), OPERATION.get(method, method), *script)


class AnswersTest(unittest.TestCase):
    def test_yes_and_no(self):
        for method in FLAGS:
            self.assertEqual(run_body(method, ("yes",)), [("yes",)])
            self.assertEqual(run_body(method, ("no",)), [("no",)])
        for method in COUNTS:
            self.assertEqual(run_body(method, ("yes",)), [("wrong", method)])
            self.assertEqual(run_body(method, ("no",)), [("wrong", method)])

    def test_counts(self):
        for number in range(5):
            for method in COUNTS:
                self.assertEqual(run_body(method, ("count", number)), [("count", number)])
            for method in FLAGS:
                self.assertEqual(run_body(method, ("count", number)), [("wrong", method)])

    def test_raise(self):
        for method in FLAGS + COUNTS:
            self.assertEqual(run_body(method, ("raise",)), [("raised", method)])
            self.assertEqual(run_body(method, ("not", ("raise",))), [("raised", method)])
            self.assertEqual(run_body(method, ("if", ("raise",), ("yes",), ("no",))), [("raised", method)])

    def test_decline(self):
        for method in DECLINERS:
            wanted = {"like": ("no",), "unlike": ("yes",)}.get(method, ("refused", method))
            self.assertEqual(run_body(method, ("decline",)), [wanted])
            self.assertEqual(run_body(method, ("if", ("yes",), ("decline",), ("yes",))), [wanted])
            turned = {"before": "behind", "behind": "before"}.get(method, method)
            call = (1, turned, "right", 0)
            self.assertEqual(run_body(method, ("decline",), entries={(1, turned): "native"}), [call])

    def test_not(self):
        for method in FLAGS:
            self.assertEqual(run_body(method, ("not", ("yes",))), [("no",)])
            self.assertEqual(run_body(method, ("not", ("not", ("yes",)))), [("yes",)])
            self.assertEqual(run_body(method, ("not", ("count", 1))), [("wrong", method)])
        for method in COUNTS:
            self.assertEqual(run_body(method, ("not", ("yes",))), [("wrong", method)])

    def test_if(self):
        for method in FLAGS:
            self.assertEqual(run_body(method, ("if", ("yes",), ("no",), ("raise",))), [("no",)])
            self.assertEqual(run_body(method, ("if", ("no",), ("raise",), ("yes",))), [("yes",)])
        for method in FLAGS + COUNTS:
            for number in (0, 1):
                self.assertEqual(run_body(method, ("if", ("count", number), ("yes",), ("yes",))), [("wrong", method)])
        self.assertEqual(run_body("hash", ("if", ("yes",), ("count", 3), ("raise",))), [("count", 3)])

    def test_parts_within_parts(self):
        truth, no_truth = ("ask", "truth", "self"), ("not", ("ask", "truth", "self"))
        for method in ("like", "has"):
            inner = ("if", truth, no_truth, ("yes",))
            for first, second, answer in (("yes", "no", "no"), ("yes", "yes", "yes"), ("no", None, "no")):
                script = [outcome for outcome in (first, second) if outcome]
                expression = ("if", inner, ("no",), ("yes",))
                calls = [(0, "truth", "left", None)] * len(script)
                wanted = [*calls, (answer,)]
                self.assertEqual(run_body(method, expression, *script, entries={(0, "truth"): "native"}), wanted)
                swapped = ("not", ("if", ("not", inner), ("no",), ("yes",)))
                wanted = [*calls, ({"yes": "no", "no": "yes"}[{"yes": "no", "no": "yes"}[answer]],)]
                self.assertEqual(run_body(method, swapped, *script, entries={(0, "truth"): "native"}), wanted)

    def test_numbers_of_counts_are_not_those_of_nodes(self):
        for number in range(5):
            inner = ("if", ("not", ("no",)), ("count", 1), ("count", number))
            self.assertEqual(run_body("hash", ("if", ("no",), ("count", number), inner)), [("count", 1)])
            inner = ("if", ("not", ("yes",)), ("count", 1), ("count", number))
            self.assertEqual(run_body("hash", ("if", ("no",), ("count", number), inner)), [("count", number)])

    def test_a_count_in_the_middle(self):
        hashes = {(0, "hash"): "native"}
        expression = ("if", ("ask", "hash", "self"), ("yes",), ("no",))
        for outcome in range(5):
            self.assertEqual(run_body("like", expression, outcome, entries=hashes)[-1], ("wrong", "like"))
        self.assertEqual(run_body("like", ("not", ("ask", "hash", "self")), 0, entries=hashes)[-1], ("wrong", "like"))
        self.assertEqual(run_body("truth", ("ask", "hash", "self"), 0, entries=hashes)[-1], ("wrong", "truth"))
        self.assertEqual(run_body("length", ("ask", "hash", "self"), 2, entries=hashes)[-1], ("count", 2))
        truths = {(0, "truth"): "native"}
        self.assertEqual(run_body("hash", ("ask", "truth", "self"), "no", entries=truths)[-1], ("wrong", "hash"))

    def test_the_method_that_does_not_fit_is_that_of_the_body(self):
        """truth asks the body of length; like is asked for unlike."""
        self.assertEqual(run(one({"length": Body("length", ("yes",))}), "truth"), [("wrong", "length")])
        self.assertEqual(run(one({"length": Body("length", ("no",))}), "turned"), [("wrong", "length")])
        self.assertEqual(run(one({"like": Body("like", ("count", 0))}), "unlike"), [("wrong", "like")])
        self.assertEqual(run(one({"like": Body("like", ("raise",))}), "unlike"), [("raised", "like")])

    def test_the_ways_change_the_answers_of_bodies(self):
        self.assertEqual(run(one({"length": Body("length", ("count", 0))}), "truth"), [("no",)])
        self.assertEqual(run(one({"length": Body("length", ("count", 3))}), "truth"), [("yes",)])
        self.assertEqual(run(three({(0, "like"): Body("like", ("yes",))}), "unlike"), [("no",)])
        self.assertEqual(run(three({(1, "like"): Body("like", ("no",))}), "unlike"), [("yes",)])
        self.assertEqual(run(three({(1, "unlike"): Body("unlike", ("no",))}), "unlike"), [("no",)])


class AsksTest(unittest.TestCase):
    def test_one_operand(self):
        for method in FLAGS + COUNTS:
            for operation in ONE:
                asked = ASKED_METHOD.get(operation, operation)
                for role, operand in (("self", 0), ("other", 1)):
                    if (role == "self" or takes_other(method)) and (asked != method or operand == 1):
                        outcomes = ("yes", "no") if operation == "truth" else (0, 2)
                        fits = (operation == "truth") == (method in FLAGS)
                        for outcome in outcomes:
                            got = run_body(
                                method, ("ask", operation, role), outcome, entries={(operand, asked): "native"}
                            )
                            end = (outcome,) if operation == "truth" else ("count", outcome)
                            wanted = [(operand, asked, CLASSES[operand], None), end if fits else ("wrong", method)]
                            self.assertEqual(got, wanted, (method, operation, role))

    def test_two_operands(self):
        for method in FLAGS[1:]:
            for operation in TWO:
                asked = ASKED_METHOD.get(operation, operation)
                for roles, operands in ((("self", "other"), (0, 1)), (("other", "self"), (1, 0))):
                    if asked != method or operands == (1, 0):
                        call = (operands[0], asked, CLASSES[operands[0]], operands[1])
                        for outcome in ("yes", "no"):
                            got = run_body(
                                method, ("ask", operation, *roles), outcome, entries={(operands[0], asked): "native"}
                            )
                            self.assertEqual(got, [call, (outcome,)], (method, operation, roles))

    def test_the_roles_are_those_of_the_lookup(self):
        """A body that was found on operand 1 has this as its self."""
        before = Body("behind", ("if", ("ask", "truth", "self"), ("ask", "truth", "other"), ("no",)))
        scene = three({(1, "behind"): before, (0, "truth"): "native", (1, "truth"): "native"})
        wanted = [(1, "truth", "right", None), (0, "truth", "left", None), ("yes",)]
        self.assertEqual(run(scene, "before", "yes", "yes"), wanted)

    def test_the_item_at_hand(self):
        likes = Body("like", ("ask", "before", "other", "self"))
        scene = three({(0, "walk"): "native", (2, "like"): likes, (1, "before"): "native"})
        wanted = [(0, "walk", "left", None), (0, "step", "left", "walk"), (1, "before", "right", 2)]
        self.assertEqual(run(scene, "member", "walker", "other"), wanted)

    def test_asked_operations_end_the_run(self):
        self.assertEqual(run_body("like", ("not", ("ask", "size", "self"))), [("refused", "size")])
        self.assertEqual(run_body("like", ("ask", "before", "self", "other")), [("refused", "before")])
        blocked = {(1, "hash"): "blocked"}
        self.assertEqual(run_body("like", ("ask", "hash", "other"), entries=blocked), [("refused", "hash")])
        self.assertEqual(run_body("like", ("ask", "hash", "self")), [("barred", "left")])
        barred = {(1, "like"): "native"}
        self.assertEqual(run_body("has", ("ask", "hash", "other"), entries=barred), [("barred", "right")])

    def test_asked_operations_without_a_way(self):
        self.assertEqual(run_body("has", ("ask", "like", "self", "other")), [("no",)])
        self.assertEqual(run_body("has", ("ask", "unlike", "self", "other")), [("yes",)])
        self.assertEqual(run_body("has", ("ask", "truth", "other")), [("yes",)])

    def test_asked_member_runs_over_items(self):
        expression = ("not", ("ask", "member", "other", "self"))
        wanted = [(1, "walk", "right", None), (1, "step", "right", "walk"), ("yes",)]
        self.assertEqual(run_body("like", expression, "walker", "out", entries={(1, "walk"): "native"}), wanted)

    def test_the_example_of_the_document(self):
        body = Body("unlike", ("not", ("ask", "like", "self", "other")))
        scene = three({(0, "unlike"): body, (1, "like"): "native"})
        self.assertEqual(run(scene, "unlike", "yes"), [(1, "like", "right", 0), ("no",)])
        self.assertEqual(run(scene, "unlike", "decline"), [(1, "like", "right", 0), ("yes",)])
        # Behind the like of the left class no way of unlike is tried: its body has answered.
        scene = three({(0, "unlike"): body, (0, "like"): "native", (1, "unlike"): "native"})
        self.assertEqual(run(scene, "unlike", "decline")[-1], ("yes",))


class FurtherTest(unittest.TestCase):
    def test_native_behind(self):
        for method in FLAGS + COUNTS:
            operation = OPERATION.get(method, method)
            for behind in ("b", "c"):
                book = book_of(bars_hash=False)
                scene = chain(3, {("a", method): Body(method, ("further",)), (behind, method): "native"}, book)
                call = (0, method, behind, 1 if takes_other(method) else None)
                outcome, end = (2, ("count", 2)) if method in COUNTS else ("no", ("no",))
                self.assertEqual(run(scene, operation, outcome), [call, end])
                self.assertEqual(run(scene, operation, "wrong"), [call, ("wrong", method)])
                self.assertEqual(run(scene, operation, "raise"), [call, ("raised", method)])

    def test_decline_behind(self):
        for method in DECLINERS:
            scene = chain(2, {("a", method): Body(method, ("further",)), ("b", method): "native"})
            turned = {"before": "behind", "behind": "before"}.get(method, method)
            wanted = [(0, method, "b", 1), (1, turned, "b", 0)]
            got = run(scene, method, "decline")
            if turned == method:
                self.assertEqual(got, wanted)
            else:
                self.assertEqual(got, [wanted[0], ("refused", method)])

    def test_body_behind(self):
        middle = Body("like", ("if", ("ask", "truth", "other"), ("further",), ("no",)))
        entries = {("a", "like"): Body("like", ("further",)), ("b", "like"): middle, ("c", "like"): "native"}
        scene = chain(4, {**entries, ("d", "truth"): "native"})
        truth = (1, "truth", "d", None)
        self.assertEqual(run(scene, "like", "no"), [truth, ("no",)])
        self.assertEqual(run(scene, "like", "yes", "yes"), [truth, (0, "like", "c", 1), ("yes",)])

    def test_nothing_or_blocked_behind(self):
        for method in FLAGS + COUNTS:
            operation = OPERATION.get(method, method)
            for entries in ({}, {("b", method): "blocked"}, {("c", method): "blocked"}):
                scene = chain(3, {("a", method): Body(method, ("further",)), **entries}, book_of(bars_hash=False))
                self.assertEqual(run(scene, operation), [("refused", method)])

    def test_the_method_is_refused_and_not_the_operation(self):
        self.assertEqual(run(one({"length": Body("length", ("further",))}), "truth"), [("refused", "length")])
        self.assertEqual(run(one({"has": Body("has", ("further",))}), "member"), [("refused", "has")])
        self.assertEqual(run(three({(1, "behind"): Body("behind", ("further",))}), "before"), [("refused", "behind")])

    def test_barred_behind(self):
        entries = {("a", "hash"): Body("hash", ("further",)), ("c", "like"): "native", ("d", "hash"): "native"}
        self.assertEqual(run(chain(4, entries), "hash"), [("barred", "c")])
        self.assertEqual(run(chain(4, {**entries, ("a", "like"): "native"}), "hash"), [("barred", "c")])
        self.assertEqual(run(chain(4, entries, book_of(bars_hash=False)), "hash"), [(0, "hash", "d", None)])

    def test_behind_the_owner_in_the_order_of_the_operand(self):
        table = Table(Book())
        for name, *bases in (("a",), ("b", "a"), ("c", "a"), ("d", "b", "c")):
            table.add(name, *bases)
        table["b", "like"] = Body("like", ("further",))
        table["c", "like"] = table["a", "like"] = "native"
        self.assertEqual(run(Scene(table, "d", "b"), "like"), [(0, "like", "c", 1)])
        self.assertEqual(run(Scene(table, "d", "b"), "like", exchanged=True), [(1, "like", "a", 0)])

    def test_further_keeps_the_operands(self):
        body = Body("like", ("ask", "before", "other", "self"))
        scene = chain(2, {("a", "like"): Body("like", ("further",)), ("b", "like"): body, ("b", "before"): "native"})
        self.assertEqual(run(scene, "like", exchanged=True), [(0, "before", "b", 1)])

    def test_the_answer_behind_is_the_answer(self):
        scene = chain(2, {("a", "truth"): Body("truth", ("further",)), ("b", "truth"): Body("truth", ("count", 1))})
        self.assertEqual(run(scene, "truth"), [("wrong", "truth")])
        scene = chain(2, {("a", "like"): Body("like", ("further",)), ("b", "like"): Body("like", ("decline",))})
        self.assertEqual(run(scene, "like"), [("no",)])


class RingsTest(unittest.TestCase):
    def test_of_one_body(self):
        scene = one({"truth": Body("truth", ("not", ("ask", "truth", "self")))})
        self.assertEqual(run(scene, "truth"), [("loop", (("left", "truth", 0, None),))])
        scene = one({"like": Body("like", ("ask", "like", "self", "other"))})
        self.assertEqual(run(scene, "like"), [("loop", (("left", "like", 0, 1),))])
        self.assertEqual(run(scene, "like", exchanged=True), [("loop", (("left", "like", 1, 0),))])

    def test_of_several_bodies(self):
        scene = one({"like": Body("like", ("ask", "like", "other", "self"))})
        self.assertEqual(run(scene, "like"), [("loop", (("left", "like", 0, 1), ("left", "like", 1, 0)))])
        entries = {
            (0, "like"): Body("like", ("ask", "before", "other", "self")),
            (1, "before"): Body("before", ("if", ("ask", "truth", "other"), ("yes",), ("no",))),
            (0, "truth"): Body("truth", ("ask", "hash", "self")),
            (0, "hash"): Body("hash", ("ask", "truth", "self")),
        }
        ring = (("left", "truth", 0, None), ("left", "hash", 0, None))
        self.assertEqual(run(three(entries), "like"), [("loop", ring)])
        self.assertEqual(run(three(entries), "hash"), [("loop", ring[::-1])])

    def test_from_the_inner_one_on(self):
        """The ring begins with the body that is entered again, not with the outermost one."""
        entries = {
            (0, "truth"): Body("truth", ("ask", "hash", "self")),
            (0, "hash"): Body("hash", ("ask", "size", "self")),
            (0, "length"): Body("length", ("ask", "hash", "self")),
        }
        ring = (("left", "hash", 0, None), ("left", "length", 0, None))
        self.assertEqual(run(three(entries), "truth"), [("loop", ring)])

    def test_bodies_that_go_further_are_open(self):
        likes = {("a", "like"): Body("like", ("further",)), ("b", "like"): Body("like", ("ask", "like", "self", "other"))}
        ring = (("a", "like", 0, 1), ("b", "like", 0, 1))
        self.assertEqual(run(chain(2, likes), "like"), [("loop", ring)])
        likes["b", "like"] = Body("like", ("ask", "before", "self", "other"))
        likes["b", "before"] = Body("before", ("ask", "like", "self", "other"))
        self.assertEqual(run(chain(2, likes), "like"), [("loop", (*ring, ("b", "before", 0, 1)))])

    def test_behind_calls(self):
        asks = Body("like", ("if", ("ask", "before", "self", "other"), ("ask", "like", "self", "other"), ("no",)))
        scene = three({(0, "like"): asks, (0, "before"): "native"})
        self.assertEqual(run(scene, "like", "yes")[-1], ("loop", (("left", "like", 0, 1),)))
        self.assertEqual(run(scene, "like", "no")[-1], ("no",))

    def test_a_body_that_has_answered_is_not_open(self):
        twice = ("if", ("ask", "truth", "self"), ("ask", "truth", "self"), ("no",))
        scene = three({(0, "like"): Body("like", twice), (0, "truth"): Body("truth", ("yes",))})
        self.assertEqual(run(scene, "like"), [("yes",)])
        scene = three({(0, "like"): Body("like", ("decline",)), (1, "like"): Body("like", ("ask", "like", "other", "self"))})
        ring = (("right", "like", 1, 0),)
        self.assertEqual(run(scene, "like"), [("loop", ring)])

    def test_other_operands_are_another_key(self):
        """The two members differ in their operands; so do the lookups of like on an item."""
        entries = {(0, "has"): Body("has", ("ask", "member", "other", "self")), (1, "has"): "native"}
        self.assertEqual(run(three(entries), "member"), [(1, "has", "right", 0)])
        scene = one({"like": Body("like", ("if", ("ask", "truth", "self"), ("ask", "like", "other", "self"), ("no",)))})
        self.assertEqual(run(scene, "like"), [("loop", (("left", "like", 0, 1), ("left", "like", 1, 0)))])


METHODS_OF_40 = ("like", "unlike", "before", "behind", "has")
CHAIN = "abcdefgh"


def asking(method, operation, roles, test):
    """A body that asks behind a test, which is either answered at once or by a call."""
    asked = ("ask", operation, *roles)
    return Body(method, ("if", test, asked, ("no",)))


def deep_scene(test, last="truth"):
    """Each method goes further through 8 classes, and then asks the next one: 40 bodies.

    The body of the 40th asks the operation last of self.
    """
    entries = {("h", "truth"): "native", ("h", "hash"): "native"}
    for at, method in enumerate(METHODS_OF_40):
        for name in CHAIN[:-1]:
            entries[name, method] = Body(method, ("if", test, ("further",), ("no",)))
        if at == len(METHODS_OF_40) - 1:
            entries["h", method] = Body(method, ("if", test, ("ask", last, "self"), ("no",)))
        else:
            asked = METHODS_OF_40[at + 1]
            asked = "member" if asked == "has" else asked
            entries["h", method] = Body(method, ("if", test, ("ask", asked, "self", "other"), ("no",)))
    return entries


class DeepTest(unittest.TestCase):
    def test_40_bodies_open(self):
        """Behind calls between the bodies, so that few were entered since the last one."""
        test = ("ask", "truth", "self")
        entries = deep_scene(test)
        truth = (0, "truth", "h", None)
        got = run(chain(8, entries), "like", *["yes"] * 40)
        self.assertEqual(got, [truth] * 41)
        self.assertEqual(run(chain(8, entries), "like", *["yes"] * 41)[-1], ("yes",))
        entries = deep_scene(test, "hash")
        self.assertEqual(run(chain(8, entries, book_of(bars_hash=False)), "like", *["yes"] * 40)[-1], (0, "hash", "h", None))
        entries["a", "hash"] = Body("hash", ("count", 1))
        scene = chain(8, entries, book_of(bars_hash=False))
        self.assertEqual(run(scene, "like", *["yes"] * 39)[-1], truth)
        self.assertEqual(run(scene, "like", *["yes"] * 40)[-1], ("deep",))

    def test_a_ring_goes_ahead_of_deep(self):
        """The 41st body is one that is open."""
        table = chain(8, deep_scene(("ask", "truth", "self"))).table()
        last = Body("has", ("if", ("ask", "truth", "self"), ("ask", "behind", "self", "other"), ("no",)))
        table["h", "has"] = last
        ring = tuple((name, method, 0, 1) for method in ("behind", "has") for name in CHAIN)
        self.assertEqual(run(Scene(table, "a"), "like", *["yes"] * 40)[-1], ("loop", ring))
        ring = tuple((name, method, 0, 1) for method in METHODS_OF_40 for name in CHAIN)
        table["h", "has"] = Body("has", ("ask", "like", "self", "other"))
        self.assertEqual(run(Scene(table, "a"), "like", *["yes"] * 39)[-1], ("loop", ring))

    def entering(self, many):
        """A scene in which like enters so many bodies up to its call of truth.

        8 of them are those of like; few are open at once, as those of before and behind answer.
        """
        whole, rest = divmod(many - 8, 8)
        asked = ["before"] * whole + ["behind"] * (rest > 0)
        entries = {("h", "truth"): "native", ("h", "like"): Body("like", ("ask", "truth", "self"))}
        for name, operation in zip(CHAIN, asked + [None] * (7 - len(asked))):
            test = ("yes",) if operation is None else ("ask", operation, "self", "other")
            entries[name, "like"] = Body("like", ("if", test, ("further",), ("no",)))
        for method, length in (("before", 8), ("behind", rest)):
            for name in CHAIN[8 - length:]:
                entries[name, method] = Body(method, ("further",) if name != "h" else ("yes",))
        return chain(8, entries)

    def test_40_entered_since_the_beginning(self):
        for many in range(30, 41):
            self.assertEqual(run(self.entering(many), "like"), [(0, "truth", "h", None)])
        for many in range(41, 48):
            self.assertEqual(run(self.entering(many), "like"), [("deep",)])

    def test_40_entered_since_the_last_call(self):
        """A call stands ahead of 40 more bodies: they are counted from it on."""
        asked = ("ask", "like", "self", "other")
        table = self.entering(40).table()
        table["a", "has"] = Body("has", ("if", ("ask", "truth", "self"), asked, asked))
        self.assertEqual(run(Scene(table, "a"), "member", "no")[-1], (0, "truth", "h", None))
        table["a", "has"] = Body("has", asked)
        self.assertEqual(run(Scene(table, "a"), "member"), [("deep",)])
        table = self.entering(41).table()
        table["a", "has"] = Body("has", ("if", ("ask", "truth", "self"), asked, asked))
        self.assertEqual(run(Scene(table, "a"), "member", "no")[-1], ("deep",))

    def test_every_call_begins_to_count_again(self):
        """Also a step and an item, and a call of the body itself behind its first 40 bodies."""
        for method, *script in (("walk", "walker", "other"), ("item", "other"), ("item", "other", "yes")):
            table = self.entering(40).table()
            table["a", method] = "native"
            wanted = ("yes",) if script[-1] == "yes" else (2, "truth", "h", None)
            self.assertEqual(run(Scene(table, "a"), "member", *script)[-1], wanted)
            again = [*script[:2 if method == "walk" else 1], "no", "other"]
            self.assertEqual(run(Scene(table, "a"), "member", *again)[-1], (2, "truth", "h", None))

    def test_a_few_bodies_between_calls_do_not_add_up(self):
        """21 rounds of 2 bodies, each behind a step, and then an end."""
        body = Body("like", ("ask", "before", "self", "other"))
        scene = three({(0, "walk"): "native", (2, "like"): body, (2, "before"): Body("before", ("no",))})
        script = ["walker"] + ["other"] * 45
        self.assertEqual(run(scene, "member", *script)[-1], (0, "step", "left", "walk"))
        self.assertEqual(run(scene, "member", *script, "out")[-1], ("no",))
