import random
import unittest

from answersby.bodies import Body
from answersby.errors import NoMachine, NoRelation, NoScript, Unanswered
from answersby.machines import Machine, machine_of
from answersby.names import METHODS, OPERATIONS, outcomes_of, takes_other
from answersby.steady import RELATIONS, questions, related, steady_end
from made import by_breadth
from oracle import chance_scene
from samples import NO_NAMES, EqualToAll, RefusesAll
from scenery import one, three

YES, NO = ("end", ("yes",)), ("end", ("no",))
WALK, BACK = (0, "walk", "a", None), (0, "back", "a", None)
STEP, BACK_STEP = (0, "step", "a", "walk"), (0, "step", "a", "back")
FIRST, UP, THIRD = (0, "item", "a", "first"), (0, "item", "a", "up"), (0, "item", "a", 2)
LIKE, WITH_ITEM, OF_ITEM = (0, "like", "a", 1), (1, "like", "a", 2), (2, "like", "a", 0)
ITEM_SIZE, SIZE = (2, "length", "a", None), (0, "length", "a", None)

ANSWERS = [("yes",), ("no",), ("done",), ("got",), *[("count", number) for number in range(5)]]
OTHER_ENDS = [("deep",), ("refused", "like"), ("barred", "a"), ("wrong", "like"), ("raised", "step"),
              ("loop", (("a", "like", 0, 1),))]


def line(*calls, end=("yes",)):
    """A machine that makes these calls one after another, whatever is answered."""
    rows = [("call", call, (at + 1,) * len(outcomes_of(call[1]))) for at, call in enumerate(calls)]
    return Machine([*rows, ("end", end)])


def ring(*calls):
    """A machine that makes these calls again and again, until one of them raises."""
    many = len(calls)
    rows = []
    for at, call in enumerate(calls):
        rows.append(("call", call, ((at + 1) % many,) * (len(outcomes_of(call[1])) - 1) + (many,)))
    return Machine(by_breadth([*rows, YES]))


def script_of(calls):
    """The first outcome of each call."""
    return [outcomes_of(call[1])[0] for call in calls]


def plain_places(calls):
    """The places of the calls of a run, each found by all the calls before it."""
    places = []
    for at, call in enumerate(calls):
        steps = [other[1] == "step" or other[3] in ("first", "up") for other in calls[:at + 1]]
        begun = [number for number in range(at) if calls[number][1] in ("walk", "back") or calls[number][3] == "first"]
        if call[1] == "item" and call[3] == "first":
            places.append((call, 0))
        elif steps[at]:
            since = begun[-1] if begun else 0
            places.append((calls[begun[-1]] if begun else None, sum(steps[since:at])))
        elif call[0] == 2 or call[1] in METHODS and takes_other(call[1]) and call[3] == 2:
            behind = [number for number in range(at) if steps[number]]
            places.append(places[behind[-1]] if behind else None)
        else:
            places.append(None)
    return places


class RelatedTest(unittest.TestCase):
    def test_relations(self):
        self.assertEqual(RELATIONS, ("same", "opposite", "nonzero", "counts"))

    def check(self, relation, pairs):
        """Of all answers and numbers of items, just these are related; pairs has (first, second, items or None)."""
        for first in ANSWERS:
            for second in ANSWERS:
                for items in (0, 1, 2, 3, 4, 5, 1000):
                    wanted = (first, second, None) in pairs or (first, second, items) in pairs
                    self.assertIs(related(relation, first, second, items), wanted, (first, second, items))

    def test_same(self):
        self.check("same", [(end, end, None) for end in ANSWERS])

    def test_opposite(self):
        self.check("opposite", [(("yes",), ("no",), None), (("no",), ("yes",), None)])

    def test_nonzero(self):
        counts = [(("yes",), ("count", number), None) for number in (1, 2, 3, 4)]
        self.check("nonzero", [*counts, (("no",), ("count", 0), None)])

    def test_counts(self):
        self.check("counts", [(("count", number), ("done",), number) for number in range(5)])

    def test_ends_that_are_no_answers(self):
        for relation in RELATIONS:
            for first in OTHER_ENDS:
                for second in OTHER_ENDS:
                    self.assertIs(related(relation, first, second, 3), True)
                for second in ANSWERS:
                    for items in (0, 1, 4):
                        self.assertIs(related(relation, first, second, items), False)
                        self.assertIs(related(relation, second, first, items), False)

    def test_by_name(self):
        self.assertTrue(related(items=2, second=("done",), first=("count", 2), relation="counts"))

    def test_no_relation(self):
        for value in NO_NAMES + ("sames", "Same", "count", ("same",), EqualToAll(), RefusesAll()):
            with self.assertRaises(NoRelation) as caught:
                related(value, ("yes",), ("yes",), 0)
            self.assertIs(caught.exception.value, value)


class QuestionsTest(unittest.TestCase):
    def places(self, *calls):
        rows = questions(line(*calls), script_of(calls))
        self.assertEqual([row[0] for row in rows], list(calls))
        self.assertEqual([row[2] for row in rows], script_of(calls))
        return [row[1] for row in rows]

    def test_walk_and_steps(self):
        self.assertEqual(self.places(WALK, STEP, STEP, STEP), [None, (WALK, 0), (WALK, 1), (WALK, 2)])
        self.assertEqual(self.places(BACK, BACK_STEP, BACK_STEP), [None, (BACK, 0), (BACK, 1)])

    def test_items(self):
        self.assertEqual(self.places(FIRST, UP, UP), [(FIRST, 0), (FIRST, 1), (FIRST, 2)])

    def test_an_index_is_no_step(self):
        self.assertEqual(self.places(THIRD), [None])
        self.assertEqual(self.places(WALK, STEP, THIRD, STEP), [None, (WALK, 0), None, (WALK, 1)])
        for index in (0, 1, 2, 3):
            self.assertEqual(self.places(FIRST, (0, "item", "a", index), UP), [(FIRST, 0), None, (FIRST, 1)])
            self.assertEqual(self.places(FIRST, (2, "item", "a", index)), [(FIRST, 0), (FIRST, 0)])

    def test_steps_without_a_begin(self):
        self.assertEqual(self.places(STEP, STEP, UP), [(None, 0), (None, 1), (None, 2)])
        self.assertEqual(self.places(LIKE, UP, ITEM_SIZE, LIKE, UP), [None, (None, 0), (None, 0), None, (None, 1)])

    def test_calls_on_and_with_the_item(self):
        self.assertEqual(self.places(OF_ITEM, WITH_ITEM, ITEM_SIZE), [None, None, None])
        wanted = [None, (WALK, 0), (WALK, 0), (WALK, 0), (WALK, 0), (WALK, 1), (WALK, 1)]
        self.assertEqual(self.places(WALK, STEP, OF_ITEM, WITH_ITEM, ITEM_SIZE, STEP, OF_ITEM), wanted)
        self.assertEqual(self.places(FIRST, WITH_ITEM, UP, WITH_ITEM), [(FIRST, 0), (FIRST, 0), (FIRST, 1), (FIRST, 1)])

    def test_all_other_calls(self):
        others = [LIKE, SIZE, (1, "hash", "a", None), (1, "like", "a", 0), (0, "call", "a", None), (0, "grow", "a", 1)]
        self.assertEqual(self.places(FIRST, *others), [(FIRST, 0), *[None] * len(others)])
        for method in METHODS:
            if takes_other(method):
                self.assertEqual(self.places(FIRST, (0, method, "a", 2)), [(FIRST, 0), (FIRST, 0)])
                self.assertEqual(self.places(FIRST, (2, method, "a", 1)), [(FIRST, 0), (FIRST, 0)])
                self.assertEqual(self.places(FIRST, (0, method, "a", 1)), [(FIRST, 0), None])

    def test_walkers_of_the_item(self):
        """They begin a pass, but are no steps; so their own place is that of the last step."""
        walk, step = (2, "walk", "a", None), (2, "step", "a", "walk")
        first = (2, "item", "a", "first")
        wanted = [None, (WALK, 0), (WALK, 0), (walk, 0), (walk, 1), (walk, 1)]
        self.assertEqual(self.places(WALK, STEP, walk, step, STEP, OF_ITEM), wanted)
        self.assertEqual(self.places(WALK, STEP, first, OF_ITEM), [None, (WALK, 0), (first, 0), (first, 0)])

    def test_passes_that_begin_again(self):
        wanted = [None, (WALK, 0), (WALK, 1), None, (WALK, 0), (WALK, 1)]
        self.assertEqual(self.places(WALK, STEP, STEP, WALK, STEP, STEP), wanted)
        self.assertEqual(self.places(FIRST, UP, FIRST, UP), [(FIRST, 0), (FIRST, 1), (FIRST, 0), (FIRST, 1)])
        wanted = [None, (WALK, 0), (FIRST, 0), (FIRST, 1), (FIRST, 2), None, (WALK, 0)]
        self.assertEqual(self.places(WALK, STEP, FIRST, STEP, UP, WALK, STEP), wanted)
        wanted = [None, (WALK, 0), None, (WALK, 0), (BACK, 0)]
        self.assertEqual(self.places(WALK, STEP, BACK, OF_ITEM, BACK_STEP), wanted)

    def test_every_outcome(self):
        machine = machine_of(three({(0, "walk"): "native", (2, "like"): "native"}), "member")
        walk, step, like = (0, "walk", "left", None), (0, "step", "left", "walk"), (2, "like", "item", 1)
        script = ["walker", "other", "decline", "other", "no", "out"]
        wanted = [
            (walk, None, "walker"), (step, (walk, 0), "other"), (like, (walk, 0), "decline"),
            (step, (walk, 1), "other"), (like, (walk, 1), "no"), (step, (walk, 2), "out"),
        ]
        self.assertEqual(questions(machine, script), wanted)
        self.assertEqual(questions(script=["raise"], machine=machine), [(walk, None, "raise")])
        self.assertEqual(script, ["walker", "other", "decline", "other", "no", "out"])

    def test_by_chance(self):
        calls = [WALK, BACK, STEP, BACK_STEP, FIRST, UP, THIRD, LIKE, WITH_ITEM, OF_ITEM, ITEM_SIZE, SIZE,
                 (2, "walk", "b", None), (2, "item", "b", "first"), (1, "item", "b", "up"), (2, "item", "b", 2)]
        for seed in range(200):
            chance = random.Random(seed)
            chosen = [chance.choice(calls) for _ in range(chance.randint(0, 14))]
            self.assertEqual(self.places(*chosen), plain_places(chosen))

    def test_a_new_list(self):
        machine = line(WALK, STEP)
        questions(machine, ["walker", "out"]).clear()
        self.assertEqual(len(questions(machine, ["walker", "out"])), 2)
        self.assertEqual(questions(machine, []), [])

    def test_no_machine(self):
        for value in NO_NAMES + ([YES], Machine):
            for script in ([], None, ["x"]):
                with self.assertRaises(NoMachine) as caught:
                    questions(value, script)
                self.assertIsNone(caught.exception.row)

    def test_no_script(self):
        for value in NO_NAMES + (("walker",), "walkers"):
            if not isinstance(value, list):
                with self.assertRaises(NoScript) as caught:
                    questions(line(WALK, STEP), value)
                self.assertIsNone(caught.exception.index)
            for script in ([value], ["walker", value], ["walker", "same", value], ["walker", "same", value, "yes"]):
                with self.assertRaises(NoScript) as caught:
                    questions(line(WALK, STEP), script)
                self.assertEqual(caught.exception.index, [item is value for item in script].index(True))
        with self.assertRaises(NoScript) as caught:
            questions(line(SIZE), [True])
        self.assertEqual(caught.exception.index, 0)


class SteadyEndTest(unittest.TestCase):
    def member(self):
        return machine_of(three({(0, "walk"): "native", (2, "like"): "native"}), "member")

    def test_the_end_of_questions(self):
        """A script that is steady leads to the end that it leads to as a script."""
        met = 0
        for seed in range(60):
            chance = random.Random(seed)
            scene = chance_scene(seed, bodies=seed % 4, rooted=seed % 2 == 0)
            for operation in OPERATIONS:
                machine = machine_of(scene, operation)
                walk, script = machine.walk(), []
                while walk.call() is not None and len(script) < 20:
                    script.append(chance.choice(outcomes_of(walk.call()[1])))
                    walk(script[-1])
                asked = questions(machine, script)
                steady = len({row[:2] for row in asked}) == len(set(asked))
                if walk.end() is not None and steady:
                    met += 1
                    items = script.count("same") + script.count("other")
                    self.assertEqual(steady_end(machine, asked), (walk.end(), items))
                    self.assertEqual(steady_end(machine, asked[::-1]), (walk.end(), items))
        self.assertGreater(met, 400)

    def test_by_hand(self):
        walk, step, like = (0, "walk", "left", None), (0, "step", "left", "walk"), (2, "like", "item", 1)
        answers = [(walk, None, "walker"), (step, (walk, 0), "other"), (like, (walk, 0), "no"), (step, (walk, 1), "other"),
                   (like, (walk, 1), "yes")]
        machine = self.member()
        self.assertEqual(steady_end(machine, answers), (("yes",), 2))
        self.assertEqual(steady_end(answers=[*answers, (walk, (walk, 0), "raise")], machine=machine), (("yes",), 2))
        answers[3] = (step, (walk, 1), "out")
        self.assertEqual(steady_end(machine, answers), (("no",), 1))
        answers[3] = (step, (walk, 1), "same")
        self.assertEqual(steady_end(machine, answers), (("yes",), 2))
        answers[0] = (walk, None, "wrong")
        self.assertEqual(steady_end(machine, answers), (("wrong", "walk"), 0))
        self.assertEqual(len(answers), 5)
        self.assertEqual(steady_end(Machine([YES]), []), (("yes",), 0))

    def test_items_of_every_kind_count(self):
        machine = line(FIRST, UP, THIRD, THIRD, STEP, end=("done",))
        answers = [(FIRST, (FIRST, 0), "same"), (UP, (FIRST, 1), "other"), (THIRD, None, "other"), (STEP, (FIRST, 2), "same")]
        self.assertEqual(steady_end(machine, answers), (("done",), 5))
        answers[2] = (THIRD, None, "out")
        self.assertEqual(steady_end(machine, answers), (("done",), 3))

    def test_the_first_of_several_answers(self):
        machine = machine_of(one({"truth": "native"}), "truth")
        truth = (0, "truth", "left", None)
        answers = [(truth, (truth, 0), "raise"), (truth, None, "no"), (truth, None, "yes"), (truth, None, "wrong")]
        self.assertEqual(steady_end(machine, answers), (("no",), 0))
        self.assertEqual(steady_end(machine, answers[::-1]), (("wrong", "truth"), 0))
        self.assertEqual(answers[1], (truth, None, "no"))

    def test_equal_questions_get_equal_outcomes(self):
        """A body asks truth twice; the second answer in the list is never used."""
        truth = ("ask", "truth", "self")
        scene = three({(0, "like"): Body("like", ("if", truth, ("not", truth), truth)), (0, "truth"): "native"})
        machine = machine_of(scene, "like")
        call = (0, "truth", "left", None)
        for outcome in ("yes", "no"):
            self.assertEqual(steady_end(machine, [(call, None, outcome), (call, None, "yes")]), (("no",), 0))

    def test_runs_that_never_end(self):
        self.assertEqual(steady_end(ring(LIKE), [(LIKE, None, "yes")]), (None, 0))
        self.assertEqual(steady_end(ring(LIKE, SIZE), [(LIKE, None, "yes"), (SIZE, None, 4)]), (None, 0))
        answers = [(WALK, None, "walker"), (STEP, (WALK, 0), "other"), (OF_ITEM, (WALK, 0), "no")]
        self.assertEqual(steady_end(ring(WALK, STEP, OF_ITEM), answers), (None, 0))
        wanted = [(FIRST, (FIRST, 0), "same")]
        self.assertEqual(steady_end(ring(FIRST), wanted), (None, 0))
        answers = [(FIRST, (FIRST, 0), "same"), (UP, (FIRST, 1), "same")]
        self.assertEqual(steady_end(ring(FIRST, UP), answers), (None, 0))

    def test_a_run_that_never_ends_behind_a_while(self):
        rows = [("call", WALK, (1, 0, 0)), ("call", STEP, (1, 2, 3, 3)), ("call", LIKE, (2, 2, 2, 2, 3)), YES]
        answers = [(WALK, None, "walker"), (STEP, (WALK, 0), "same"), (STEP, (WALK, 1), "other"), (LIKE, None, "no")]
        self.assertEqual(steady_end(Machine(rows), answers), (None, 0))
        answers[3] = (LIKE, None, "raise")
        self.assertEqual(steady_end(Machine(rows), answers), (("yes",), 2))

    def test_a_row_that_comes_again_may_still_end(self):
        """Behind another step the same row gets another answer."""
        machine = self.member()
        walk, step, like = (0, "walk", "left", None), (0, "step", "left", "walk"), (2, "like", "item", 1)
        answers = [(walk, None, "walker")] + [(step, (walk, at), "other") for at in range(30)]
        answers += [(like, (walk, at), "no") for at in range(29)] + [(like, (walk, 29), "yes")]
        self.assertEqual(steady_end(machine, answers), (("yes",), 30))
        rows = [("call", LIKE, (1, 1, 1, 1, 1)), ("call", FIRST, (0, 0, 2, 2)), YES]
        self.assertEqual(steady_end(Machine(rows), [(LIKE, None, "yes"), (FIRST, (FIRST, 0), "same")]), (None, 0))
        rows = [("call", OF_ITEM, (1, 1, 1, 1, 2)), ("call", FIRST, (0, 0, 2, 2)), YES]
        answers = [(OF_ITEM, None, "yes"), (FIRST, (FIRST, 0), "same"), (OF_ITEM, (FIRST, 0), "raise")]
        self.assertEqual(steady_end(Machine(rows), answers), (("yes",), 1))
        rows = [("call", STEP, (1, 1, 2, 2)), ("call", WALK, (3, 3, 3)), YES, ("call", STEP, (1, 1, 2, 2))]
        answers = [(STEP, (None, 0), "same"), (WALK, None, "walker"), (STEP, (WALK, 0), "out")]
        self.assertEqual(steady_end(Machine(rows), answers), (("yes",), 1))

    def test_unanswered(self):
        walk, step, like = (0, "walk", "left", None), (0, "step", "left", "walk"), (2, "like", "item", 1)
        answers = [(walk, None, "walker"), (step, (walk, 0), "other"), (like, (walk, 0), "no")]
        wrong = [(walk, (walk, 0), "walker"), (step, None, "out"), (step, (None, 0), "out"), (step, (walk, 2), "out"),
                 (like, None, "yes"), (like, (walk, 1), "yes")]
        for many, asked in ((0, walk), (1, step), (2, like), (3, step)):
            with self.assertRaises(Unanswered) as caught:
                steady_end(self.member(), [*wrong, *answers[:many]])
            self.assertEqual(caught.exception.asked, asked)
        with self.assertRaises(Unanswered) as caught:
            steady_end(ring(STEP), [(STEP, (None, 0), "same"), (STEP, (None, 1), "same")])
        self.assertEqual(caught.exception.asked, STEP)

    def test_no_machine(self):
        for value in NO_NAMES + ([YES], Machine):
            with self.assertRaises(NoMachine) as caught:
                steady_end(value, [])
            self.assertIsNone(caught.exception.row)
