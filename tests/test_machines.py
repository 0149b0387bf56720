import random
import unittest

from answersby.bodies import Body
from answersby.books import Book
from answersby.errors import NoFlag, NoMachine, NoName, NoNumber, NoScene, NoScript, TooMany
from answersby.machines import Machine, Walk, looked_of, machine_of, names_of
from answersby.names import METHODS, OPERATIONS, outcomes_of, takes_other
from answersby.scenes import Scene
from answersby.tables import Table
from made import by_breadth, chance_rows, doubled, plain_form
from oracle import crowded_scene
from samples import NO_NAMES, NUMBERS, STRANGE, EqualToAll, RefusesAll, deep
from scenery import book_of, chain, one, three

YES, NO = ("end", ("yes",)), ("end", ("no",))
HAS = ("call", (0, "has", "a", 1))


class MachineOfTest(unittest.TestCase):
    def check(self, scene, operation, rows, **wanted):
        machine = machine_of(scene, operation, **wanted)
        self.assertEqual(machine.listed(), rows)
        self.assertEqual(list(machine), rows)
        self.assertEqual(machine.form(), tuple(rows))
        self.assertEqual(len(machine), len(rows))

    def test_an_end(self):
        self.check(one(), "truth", [YES])
        self.check(one(), "size", [("end", ("refused", "size"))])
        self.check(one({"like": "native"}), "hash", [("end", ("barred", "left"))])
        self.check(one({"truth": Body("truth", ("ask", "truth", "self"))}), "truth",
                   [("end", ("loop", (("left", "truth", 0, None),)))])

    def test_truth(self):
        ends = [YES, NO, ("end", ("wrong", "truth")), ("end", ("raised", "truth"))]
        self.check(one({"truth": "native"}), "truth", [("call", (0, "truth", "left", None), (1, 2, 3, 4)), *ends])
        self.check(one({"truth": "native"}), "truth", [("call", (1, "truth", "left", None), (1, 2, 3, 4)), *ends],
                   exchanged=True)

    def test_truth_by_length(self):
        rows = [
            ("call", (0, "length", "left", None), (1, 2, 2, 2, 2, 3, 4)), NO, YES,
            ("end", ("wrong", "length")), ("end", ("raised", "length")),
        ]
        self.check(one({"length": "native"}), "truth", rows)

    def test_hash(self):
        ends = [("end", ("count", number)) for number in range(5)]
        ends += [("end", ("wrong", "hash")), ("end", ("raised", "hash"))]
        self.check(one({"hash": "native"}), "hash", [("call", (0, "hash", "left", None), tuple(range(1, 8))), *ends])

    def test_each_by_items(self):
        rows = [
            ("call", (0, "item", "left", "first"), (1, 1, 2, 3)), ("call", (0, "item", "left", "up"), (1, 1, 2, 3)),
            ("end", ("done",)), ("end", ("raised", "item")),
        ]
        self.check(one({"item": "native"}), "each", rows)

    def test_member_by_walk(self):
        rows = [
            ("call", (0, "walk", "left", None), (1, 2, 3)), ("call", (0, "step", "left", "walk"), (4, 5, 6, 7)),
            ("end", ("wrong", "walk")), ("end", ("raised", "walk")), YES,
            ("call", (2, "like", "item", 1), (4, 1, 8, 1, 9)), NO, ("end", ("raised", "step")),
            ("end", ("wrong", "like")), ("end", ("raised", "like")),
        ]
        self.check(three({(0, "walk"): "native", (2, "like"): "native"}), "member", rows)

    def test_turned_by_count(self):
        rows = [("call", (0, "length", "left", None), (1, 2, 3, 4, 5, 6, 7)), ("end", ("done",))]
        rows += [("call", (0, "item", "left", 0), (1, 1, 1, 8))]
        rows += [("call", (0, "item", "left", index), (index + 1, index + 1, 1, 8)) for index in (1, 2, 3)]
        rows += [("end", ("wrong", "length")), ("end", ("raised", "length")), ("end", ("raised", "item"))]
        self.check(one({"length": "native", "item": "native"}), "turned", rows)

    def test_like_turned(self):
        scene = three({(0, "like"): "native", (1, "like"): "native"})
        rows = [
            ("call", (0, "like", "left", 1), (1, 2, 3, 4, 5)), YES, NO, ("end", ("wrong", "like")),
            ("call", (1, "like", "right", 0), (1, 2, 3, 2, 5)), ("end", ("raised", "like")),
        ]
        self.check(scene, "like", rows)
        rows[0] = ("call", (1, "like", "right", 0), (1, 2, 3, 4, 5))
        rows[4] = ("call", (0, "like", "left", 1), (1, 2, 3, 2, 5))
        self.check(scene, "like", rows, exchanged=True)

    def test_states_that_go_on_alike_are_one_row(self):
        """Behind each branch the same calls are made, but by other bodies."""
        truth = ("ask", "truth", "self")
        first = Body("like", ("if", truth, ("ask", "before", "self", "other"), ("ask", "behind", "self", "other")))
        both = ("ask", "truth", "other")
        entries = {(0, "like"): first, (0, "before"): Body("before", both), (0, "behind"): Body("behind", both)}
        scene = three({**entries, (0, "truth"): "native", (1, "truth"): "native"})
        rows = [
            ("call", (0, "truth", "left", None), (1, 1, 2, 3)), ("call", (1, "truth", "right", None), (4, 5, 2, 3)),
            ("end", ("wrong", "truth")), ("end", ("raised", "truth")), YES, NO,
        ]
        self.check(scene, "like", rows)

    def test_most(self):
        for entries, operation in (({}, "size"), ({"item": "native"}, "each"), ({"hash": "native"}, "hash")):
            scene = one(entries)
            rows = len(machine_of(scene, operation))
            for make in (machine_of, names_of, looked_of):
                wanted = make(scene, operation)
                for most in (rows, rows + 1, 400, 2000):
                    self.assertEqual(make(scene, operation, most=most), wanted)
                for most in range(1, rows):
                    with self.assertRaises(TooMany) as caught:
                        make(scene, operation, most=most)
                    self.assertEqual(caught.exception.limit, most)

    def test_hundreds_of_rows(self):
        met = []
        for seed in (1, 2, 8, 17, 20, 36):
            scene = crowded_scene(seed)
            many = len(machine_of(scene, "like", most=2000))
            met.append(many)
            self.assertEqual(len(machine_of(scene, "like", most=many)), many)
            with self.assertRaises(TooMany) as caught:
                machine_of(scene, "like", most=many - 1)
            self.assertEqual(caught.exception.limit, many - 1)
            if many > 400:
                for make in (machine_of, names_of, looked_of):
                    with self.assertRaises(TooMany) as caught:
                        make(scene, "like")
                    self.assertEqual(caught.exception.limit, 400)
        self.assertTrue(max(met) > 400 > min(met))

    def test_too_many_states(self):
        refused = 0
        for seed in (5, 18, 28):
            try:
                machine_of(crowded_scene(seed), "like", most=2000)
            except TooMany as error:
                refused += 1
                self.assertEqual(error.limit, 2000)
        self.assertGreater(refused, 0)

    def test_by_position_and_by_name(self):
        scene = three({(1, "like"): "native"})
        for make in (machine_of, names_of, looked_of):
            wanted = make(scene, "like", exchanged=True, most=9)
            self.assertEqual(make(most=9, exchanged=True, operation="like", scene=scene), wanted)
            with self.assertRaises(TypeError):
                make(scene, "like", True)

    def test_errors(self):
        scene = one({"hash": "native"})
        for make in (machine_of, names_of, looked_of):
            for value in NO_NAMES + (scene.table(),):
                with self.assertRaises(NoScene) as caught:
                    make(value, None, exchanged=None, most=None)
                self.assertIs(caught.exception.value, value)
            for value in NO_NAMES + ("length", "step"):
                with self.assertRaises(NoName) as caught:
                    make(scene, value, exchanged=None, most=None)
                self.assertIs(caught.exception.value, value)
            for value in STRANGE + (0, 1):
                with self.assertRaises(NoFlag) as caught:
                    make(scene, "hash", exchanged=value, most=None)
                self.assertIs(caught.exception.value, value)
            for value in STRANGE + (True, False, 0, -1, 2001, 10 ** 30, "400"):
                with self.assertRaises(NoNumber) as caught:
                    make(scene, "hash", most=value)
                self.assertIs(caught.exception.value, value)


class FormTest(unittest.TestCase):
    def test_rows_doubled(self):
        for seed in range(60):
            chance = random.Random(seed)
            rows = chance_rows(chance, chance.randint(1, 12))
            machine = Machine(rows)
            self.assertEqual(machine.form(), plain_form(rows))
            more = doubled(chance, rows, chance.randint(1, 9))
            self.assertEqual(Machine(more).form(), machine.form())
            self.assertEqual(Machine(more), machine)
            self.assertEqual(Machine(machine.form()).form(), machine.form())
            self.assertEqual(Machine(machine.form()), machine)

    def test_equal_exactly_if_all_scripts_play_alike(self):
        for seed in range(150):
            chance = random.Random(seed)
            one_row = chance_rows(chance, chance.randint(1, 5), calls=1)
            other_row = chance_rows(chance, chance.randint(1, 5), calls=1)
            wanted = plain_form(one_row) == plain_form(other_row)
            self.assertIs(Machine(one_row) == Machine(other_row), wanted)
            self.assertIs(Machine(one_row) != Machine(other_row), not wanted)

    def test_by_hand(self):
        loop = Machine([(*HAS, (0, 0, 0, 0))])
        two = Machine([(*HAS, (1, 0, 1, 0)), (*HAS, (0, 1, 1, 1))])
        self.assertEqual(two.form(), ((*HAS, (0, 0, 0, 0)),))
        self.assertEqual(two, loop)
        self.assertEqual(len(two), 2)
        other = Machine([(*HAS, (0, 0, 0, 1)), YES])
        self.assertNotEqual(other, loop)
        self.assertNotEqual(other, Machine([(*HAS, (0, 0, 0, 1)), NO]))
        self.assertNotEqual(other, Machine([(*HAS, (0, 0, 1, 0)), YES]))
        self.assertNotEqual(other, Machine([("call", (0, "has", "b", 1), (0, 0, 0, 1)), YES]))
        twins = Machine([(*HAS, (1, 2, 3, 4)), YES, YES, NO, (*HAS, (2, 1, 3, 0))])
        self.assertEqual(twins.form(), ((*HAS, (1, 1, 2, 0)), YES, NO))

    def test_numbered_anew(self):
        rows = [(*HAS, (1, 2, 3, 3)), (*HAS, (2, 1, 3, 3)), NO, YES]
        self.assertEqual(Machine(rows).form(), tuple(rows))
        rows = [(*HAS, (0, 0, 1, 2)), (*HAS, (3, 4, 2, 2)), YES, (*HAS, (2, 1, 2, 2)), (*HAS, (2, 1, 2, 2))]
        self.assertEqual(Machine(rows).form(), ((*HAS, (0, 0, 1, 2)), (*HAS, (3, 3, 2, 2)), YES, (*HAS, (2, 1, 2, 2))))

    def test_other_values_are_not_equal(self):
        machine = Machine([YES])
        for value in STRANGE + ([YES], (YES,), machine.form()):
            if not isinstance(value, (EqualToAll, RefusesAll)):
                self.assertNotEqual(machine, value)

    def test_long_machines(self):
        """10000 rows in a row, of which the last one tells all others apart; and none does."""
        rows = [(*HAS, (at + 1, at + 1, at + 1, at + 1)) for at in range(9999)]
        self.assertEqual(len(Machine([*rows, YES]).form()), 10000)
        self.assertEqual(len(Machine([*rows, (*HAS, (9999, 9999, 9999, 0))]).form()), 1)


class RowsTest(unittest.TestCase):
    def good(self, row):
        """A machine in which the row is reached."""
        if row[0] == "call":
            Machine([("call", row[1], (0,) * len(outcomes_of(row[1][1])))])
            row = ("call", row[1], (0,) * (len(outcomes_of(row[1][1])) - 1) + (1,))
            Machine([row, YES])
        else:
            Machine([row])
            Machine([(*HAS, (0, 1, 0, 0)), row])

    def wrong(self, number, rows):
        for given in (rows, tuple(rows)):
            with self.assertRaises(NoMachine) as caught:
                Machine(given)
            self.assertIs(type(caught.exception.row), type(number))
            self.assertEqual(caught.exception.row, number)

    def bad(self, row):
        self.wrong(0, [row])
        self.wrong(0, [row, row])
        self.wrong(1, [(*HAS, (0, 1, 0, 0)), row])
        self.wrong(2, [(*HAS, (1, 1, 2, 1)), YES, row, None])

    def test_none(self):
        for value in NO_NAMES + ("yes", {0: YES}, {YES}, iter([YES]), [], (), Machine([YES])):
            if isinstance(value, (list, tuple)) and len(value) > 0:
                self.wrong(0, list(value))
            else:
                with self.assertRaises(NoMachine) as caught:
                    Machine(value)
                self.assertIsNone(caught.exception.row)

    def test_10000_rows(self):
        row = (*HAS, (0, 0, 0, 0))
        rows = [(*HAS, (at + 1, 0, 0, 0)) for at in range(9999)]
        self.assertEqual(len(Machine([*rows, row])), 10000)
        rows += [(*HAS, (10000, 0, 0, 0)), row]
        self.wrong(None, rows)
        self.wrong(None, [None] * 10001)

    def test_calls(self):
        for method in METHODS:
            for operand in (0, 1, 2):
                for owner in ("a", "abcdef"):
                    ats = [None]
                    if takes_other(method):
                        ats = [other for other in (0, 1, 2) if other != operand]
                    if method == "item":
                        ats = ["first", "up", 0, 1, 2, 3]
                    for at in ats:
                        self.good(("call", (operand, method, owner, at)))
                        for other in (*STRANGE, -1, 4, True, False, "walk", "back", "first", "up", 0, 1, 2, 3, None):
                            if not any(other is right for right in ats):
                                row = ("call", (operand, method, owner, other), (0,) * len(outcomes_of(method)))
                                self.wrong(0, [row])
        for word in ("walk", "back"):
            self.good(("call", (2, "step", "c", word)))
        for other in (*STRANGE, *NUMBERS, "first", "step", None):
            self.bad(("call", (2, "step", "c", other), (0,) * 4))

    def test_parts_of_calls(self):
        good = (0, "has", "a", 1)
        wrong = {
            0: (*STRANGE, -1, 3, True, False, "0"),
            1: (*STRANGE, *NUMBERS, "steps", "size", "member"),
            2: (*STRANGE, *NUMBERS, "A", "abcdefg", "a1"),
            3: (*STRANGE, -1, 0, 3, True, "first"),
        }
        for place, values in wrong.items():
            for value in values:
                call = good[:place] + (value,) + good[place + 1:]
                self.bad(("call", call, (0,) * 4))
        for call in ((), good[:3], (*good, None), list(good), None, "call", 0, EqualToAll(), RefusesAll(), deep(2000)):
            self.bad(("call", call, (0,) * 4))

    def test_nexts(self):
        for method in (*METHODS, "step"):
            at = {"item": "up", "step": "back"}.get(method, 1 if method in METHODS and takes_other(method) else None)
            many = len(outcomes_of(method))
            for nexts in ((), (0,) * (many - 1), (0,) * (many + 1), [0] * many, None, 0, "0" * many, (None,) * many):
                self.bad(("call", (0, method, "a", at), nexts))
            for value in (*STRANGE, -1, True, False, 9, 10 ** 30):
                self.bad(("call", (0, method, "a", at), (0,) * (many - 1) + (value,)))
                self.bad(("call", (0, method, "a", at), (value,) + (0,) * (many - 1)))
        self.wrong(0, [(*HAS, (0, 0, 0, 1))])
        self.wrong(1, [(*HAS, (0, 0, 0, 1)), (*HAS, (2, 0, 0, 0))])

    def test_ends(self):
        for word in ("yes", "no", "done", "got", "deep"):
            self.good(("end", (word,)))
            self.bad(("end", (word, None)))
        told = {
            "count": [0, 1, 2, 3, 4], "refused": sorted({*OPERATIONS, *METHODS}), "barred": ["a", "abcdef", "zz"],
            "wrong": METHODS, "raised": [*METHODS, "step"],
        }
        for word, values in told.items():
            for value in values:
                self.good(("end", (word, value)))
            self.bad(("end", (word,)))
            self.bad(("end", (word, values[0], None)))
            for value in (*STRANGE, -1, 5, True, False, "A", "abcdefg", "a b", ("like",), 10 ** 30, "methods"):
                if not any(value is right for right in values):
                    self.bad(("end", (word, value)))
        self.bad(("end", ("wrong", "step")))
        self.bad(("end", ("wrong", "member")))
        self.bad(("end", ("raised", "size")))
        self.bad(("end", ("refused", "step")))
        for end in ((), ["yes"], "yes", None, ("maybe",), ("Yes",), (None,), (0,), (b"yes",), EqualToAll(), deep(2000),
                    (EqualToAll(),), (RefusesAll(),), (EqualToAll(), 0), ("loop",), ("loops", 0)):
            self.bad(("end", end))

    def test_rings(self):
        for method in METHODS:
            for operand in (0, 1, 2):
                others = [other for other in (0, 1, 2) if other != operand] if takes_other(method) else [None]
                for other in others:
                    self.good(("end", ("loop", (("a", method, operand, other),))))
                for other in (*STRANGE, True, False, -1, 0, 1, 2, 3, "first", "up", "walk", "self"):
                    if not any(other is right for right in others):
                        self.bad(("end", ("loop", (("a", method, operand, other),))))
        good = ("a", "has", 0, 1)
        self.good(("end", ("loop", (good, good, ("b", "item", 2, None)))))
        for word in ("loops", "yes", "barred", "deep", "", "raised"):
            self.bad(("end", (word, (good,))))
        for place, values in ((0, (*NUMBERS, "A", "", None)), (1, ("step", "size", None, 0)), (2, (3, -1, True, None))):
            for value in values:
                key = good[:place] + (value,) + good[place + 1:]
                self.bad(("end", ("loop", (key,))))
                self.bad(("end", ("loop", (good, key))))
        for ring in ((), [good], good, (list(good),), (good[:3],), ((*good, 0),), None, ((),), deep(2000), EqualToAll()):
            self.bad(("end", ("loop", ring)))

    def test_no_rows(self):
        for row in (*STRANGE, *NUMBERS, ("end",), ("end", ("yes",), ()), list(YES), ("call",), HAS, (*HAS, (0,) * 4, 0),
                    ("calls", *HAS[1:], (0,) * 4), ("ends", ("yes",)), (None, ("yes",)), (EqualToAll(), ("yes",)),
                    (RefusesAll(), ("yes",)), ("yes",), [*HAS, (0,) * 4]):
            self.bad(row)

    def test_the_first_wrong_row(self):
        self.wrong(1, [(*HAS, (3, 3, 3, 3)), None, None, YES])
        self.wrong(2, [YES, YES, None])

    def test_not_by_breadth(self):
        self.wrong(None, [YES, YES])
        self.wrong(None, [(*HAS, (0, 0, 0, 0)), YES])
        self.wrong(None, [(*HAS, (2, 1, 0, 0)), YES, NO])
        self.wrong(None, [(*HAS, (0, 0, 0, 2)), YES, NO])
        self.wrong(None, [(*HAS, (1, 1, 1, 2)), (*HAS, (4, 3, 0, 0)), YES, NO, YES])
        self.wrong(None, [(*HAS, (1, 1, 1, 1)), YES, (*HAS, (2, 2, 2, 2))])
        Machine([(*HAS, (1, 1, 1, 2)), (*HAS, (3, 4, 0, 0)), YES, NO, YES])

    def test_by_breadth_by_chance(self):
        for seed in range(200):
            chance = random.Random(seed)
            rows = chance_rows(chance, chance.randint(2, 6))
            names = list(range(1, len(rows)))
            chance.shuffle(names)
            names = [0, *names]
            mixed = [None] * len(rows)
            for number, row in enumerate(rows):
                nexts = tuple(names[behind] for behind in row[2]) if row[0] == "call" else ()
                mixed[names[number]] = (*row[:2], nexts) if nexts else row
            if by_breadth(mixed) == mixed:
                Machine(mixed)
            else:
                self.wrong(None, mixed)


class MachineTest(unittest.TestCase):
    def machine(self):
        return machine_of(three({(0, "walk"): "native", (2, "like"): "native"}), "member")

    def test_what_is_handed_in_and_returned(self):
        rows = [(*HAS, (0, 0, 0, 1)), YES]
        machine = Machine(rows)
        rows[1] = NO
        rows.append(NO)
        machine.listed().clear()
        self.assertEqual(list(machine), [(*HAS, (0, 0, 0, 1)), YES])
        self.assertIsInstance(machine.form(), tuple)
        self.assertEqual(list(zip(machine, machine)), [(row, row) for row in machine.listed()])
        self.assertEqual(Machine(rows=((*HAS, (0, 0, 0, 1)), YES)), machine)

    def test_play(self):
        machine = self.machine()
        walk, step, like = (0, "walk", "left", None), (0, "step", "left", "walk"), (2, "like", "item", 1)
        self.assertEqual(machine.play([]), (None, walk, 0))
        self.assertEqual(machine.play(["walker"]), (None, step, 1))
        self.assertEqual(machine.play(["walker", "other"]), (None, like, 5))
        self.assertEqual(machine.play(["walker", "other", "no"]), (None, step, 1))
        self.assertEqual(machine.play(["walker", "other", "decline"]), (None, step, 1))
        self.assertEqual(machine.play(["walker", "other", "yes"]), (("yes",), None, 4))
        self.assertEqual(machine.play(script=["wrong"]), (("wrong", "walk"), None, 2))
        self.assertEqual(Machine([YES]).play([]), (("yes",), None, 0))

    def test_play_refuses(self):
        machine = self.machine()
        script = ["walker", "other"]
        for value in NO_NAMES + (("walker",), "walker"):
            if not isinstance(value, list):
                with self.assertRaises(NoScript) as caught:
                    machine.play(value)
                self.assertIsNone(caught.exception.index)
        for value in NO_NAMES + ("walker", "same", EqualToAll(), RefusesAll()):
            for behind in ([], ["yes"], [None]):
                with self.assertRaises(NoScript) as caught:
                    machine.play([*script, value, *behind])
                self.assertEqual(caught.exception.index, 2)
        for value in ("yes", None, RefusesAll()):
            with self.assertRaises(NoScript) as caught:
                machine.play(["raise", value])
            self.assertEqual(caught.exception.index, 1)
            with self.assertRaises(NoScript) as caught:
                Machine([YES]).play([value])
            self.assertEqual(caught.exception.index, 0)
        counts = machine_of(one({"hash": "native"}), "hash")
        self.assertEqual(counts.play([1])[0], ("count", 1))
        with self.assertRaises(NoScript) as caught:
            counts.play([True])
        self.assertEqual(caught.exception.index, 0)

    def test_walk(self):
        machine = self.machine()
        for walk in (machine.walk(), Walk(machine), Walk(machine=machine)):
            self.assertEqual((walk.at(), walk.call(), walk.end()), (0, (0, "walk", "left", None), None))
            for outcome, row in (("walker", 1), ("other", 5), ("no", 1), ("other", 5), ("decline", 1), ("same", 4)):
                self.assertEqual(walk(outcome), row)
                self.assertEqual(walk.at(), row)
                self.assertEqual(walk.call(), machine.listed()[row][1] if row != 4 else None)
                self.assertEqual(walk.end(), ("yes",) if row == 4 else None)

    def test_walks_go_on_by_themselves(self):
        machine = self.machine()
        first, second = machine.walk(), machine.walk()
        first("walker")
        self.assertEqual((first.at(), second.at(), machine.walk().at()), (1, 0, 0))

    def test_walk_refuses(self):
        walk = self.machine().walk()
        for count, outcome, row in ((0, "walker", 0), (1, "other", 1), (2, "no", 5), (3, "out", 1)):
            for value in (*NO_NAMES, "got", "up", EqualToAll(), RefusesAll(), True):
                with self.assertRaises(NoScript) as caught:
                    walk(value)
                self.assertEqual(caught.exception.index, count)
                self.assertEqual(walk.at(), row)
            walk(outcome)
        for value in (*NO_NAMES, "out", "yes", RefusesAll()):
            with self.assertRaises(NoScript) as caught:
                walk(value)
            self.assertEqual(caught.exception.index, 4)
        self.assertEqual(walk.end(), ("no",))

    def test_walk_of_no_machine(self):
        for value in NO_NAMES + ([YES], (YES,), Machine, self.machine().walk()):
            with self.assertRaises(NoMachine) as caught:
                Walk(value)
            self.assertIsNone(caught.exception.row)


class NamesTest(unittest.TestCase):
    def test_names(self):
        cases = [
            ({}, "truth", [(0, "truth"), (0, "length")]),
            ({(0, "truth"): "native"}, "truth", [(0, "truth")]),
            ({(0, "truth"): "blocked", (0, "length"): "native"}, "truth", [(0, "truth")]),
            ({}, "each", [(0, "item"), (0, "walk")]),
            ({}, "turned", [(0, "length"), (0, "back")]),
            ({(0, "length"): "native"}, "turned", [(0, "length"), (0, "item"), (0, "back")]),
            ({(0, "length"): Body("length", ("count", 0))}, "turned", [(0, "length"), (0, "back")]),
            ({}, "unlike", [(0, "like"), (0, "unlike"), (1, "like"), (1, "unlike")]),
            ({(1, "unlike"): "blocked"}, "unlike", [(0, "like"), (0, "unlike"), (1, "unlike")]),
            ({(0, "like"): "native"}, "like", [(0, "like"), (1, "like")]),
            ({(0, "before"): "native"}, "before", [(0, "before"), (1, "behind")]),
            ({(0, "has"): "native"}, "member", [(0, "has")]),
            ({(0, "item"): "native"}, "member",
             [(0, "item"), (0, "walk"), (0, "has"), (1, "like"), (2, "like")]),
            ({}, "grow", [(0, "grow"), (0, "plus")]),
        ]
        for entries, operation, wanted in cases:
            self.assertEqual(names_of(three(entries), operation), wanted, (entries, operation))

    def test_exchanged(self):
        self.assertEqual(names_of(three(), "before", exchanged=True), [(0, "behind"), (1, "before")])
        self.assertEqual(names_of(three(), "size", exchanged=True), [(1, "length")])
        self.assertEqual(looked_of(three(), "size", exchanged=True), [("right", "length")])

    def test_bars_hash(self):
        asks = {(0, "truth"): Body("truth", ("ask", "hash", "self"))}
        for entries, operation in (({}, "hash"), ({(0, "hash"): "native"}, "hash"), (asks, "truth")):
            named = [(0, "truth")] * (operation == "truth")
            barred = [(0, "like"), (0, "hash")]
            self.assertEqual(names_of(three(entries), operation), named + barred)
            without = three(entries, book_of(bars_hash=False))
            self.assertEqual(names_of(without, operation), named + barred[1:])
            classes = [("left", method) for _, method in named + barred]
            self.assertEqual(looked_of(three(entries), operation), classes)
            self.assertEqual(looked_of(without, operation), classes[:-2] + classes[-1:])

    def test_bars_hash_of_the_other_operand(self):
        scene = three({(0, "has"): Body("has", ("ask", "hash", "other"))})
        self.assertEqual(names_of(scene, "member"), [(0, "has"), (1, "like"), (1, "hash")])

    def test_lookups_behind_a_class(self):
        entries = {("a", "like"): Body("like", ("further",)), ("c", "like"): "native", ("d", "like"): "native"}
        scene = chain(4, entries)
        self.assertEqual(names_of(scene, "like"), [(0, "like"), (1, "like")])
        self.assertEqual(looked_of(scene, "like"), [("c", "like"), ("b", "like"), ("a", "like")])
        entries = {("a", "truth"): Body("truth", ("further",))}
        self.assertEqual(names_of(chain(3, entries), "truth"), [(0, "truth")])
        self.assertEqual(looked_of(chain(3, entries), "truth"), [("c", "truth"), ("b", "truth"), ("a", "truth")])

    def test_lookups_of_hash_behind_a_class(self):
        entries = {("a", "hash"): Body("hash", ("further",)), ("b", "like"): "native"}
        self.assertEqual(names_of(chain(3, entries), "hash"), [(0, "like"), (0, "hash")])
        wanted = [(name, method) for name in "ba" for method in ("like", "hash")]
        self.assertEqual(looked_of(chain(3, entries), "hash"), wanted)
        plain = chain(3, entries, book_of(bars_hash=False))
        self.assertEqual(names_of(plain, "hash"), [(0, "hash")])
        self.assertEqual(looked_of(plain, "hash"), [(name, "hash") for name in "cba"])

    def test_looked_up_to_the_owner(self):
        for entry in ("native", "blocked"):
            scene = chain(4, {("c", "length"): entry})
            self.assertEqual(looked_of(scene, "size"), [("c", "length"), ("b", "length"), ("a", "length")])
        wanted = [(name, method) for name in "ba" for method in ("length", "back")]
        self.assertEqual(looked_of(chain(2), "turned"), wanted)

    def test_several_operands(self):
        table = Table(Book())
        for name, *bases in (("x",), ("m", "x"), ("b", "x")):
            table.add(name, *bases)
        self.assertEqual(looked_of(Scene(table, "m", "b"), "before"),
                         [("x", "before"), ("x", "behind"), ("m", "before"), ("b", "behind")])

    def test_lists_are_new(self):
        scene = three()
        for make in (names_of, looked_of):
            first = make(scene, "like")
            first.clear()
            self.assertNotEqual(make(scene, "like"), [])
