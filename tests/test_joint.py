import random
import unittest

from answersby.errors import NoMachine, NoNumber, NoRelation, OutOfStep, TooMany, Unanswered
from answersby.joint import clash
from answersby.machines import Machine, machine_of
from answersby.names import OPERATIONS, outcomes_of
from answersby.steady import RELATIONS, questions, related, steady_end
from made import by_breadth, doubled
from oracle import chance_scene
from samples import NO_NAMES, STRANGE, EqualToAll, RefusesAll
from steps import plain_clash

YES, NO, DONE, GOT = ("end", ("yes",)), ("end", ("no",)), ("end", ("done",)), ("end", ("got",))
WALK, STEP = (0, "walk", "a", None), (0, "step", "a", "walk")
BACK, BACK_STEP = (0, "back", "a", None), (0, "step", "a", "back")
FIRST, UP = (0, "item", "a", "first"), (0, "item", "a", "up")
LIKE, WITH_ITEM, OF_ITEM = (0, "like", "a", 1), (1, "like", "a", 2), (2, "like", "a", 0)
TRUTH, LENGTH, CALL = (0, "truth", "a", None), (0, "length", "a", None), (0, "call", "a", None)
ENDS = [("yes",), ("no",), ("count", 0), ("count", 1), ("count", 2), ("done",), ("raised", "step"), ("wrong", "like")]
POOLS = (
    (LIKE, OF_ITEM, LENGTH, TRUTH), (WALK, STEP, OF_ITEM, LIKE), (FIRST, UP, OF_ITEM, WITH_ITEM),
    (WALK, STEP, LIKE, OF_ITEM, FIRST, UP), (LENGTH, WALK, STEP), (STEP, UP, OF_ITEM, (2, "item", "a", 2)),
    (WALK, (2, "walk", "b", None), STEP, (2, "step", "b", "walk"), OF_ITEM), (BACK, BACK_STEP, WALK, STEP, OF_ITEM),
    (LENGTH, (0, "item", "a", 1), (0, "item", "a", 0), FIRST, UP),
)


def end(*told):
    return ("end", told)


def row(call, *nexts):
    """The row of a call; the last number stands for all outcomes that are left."""
    return ("call", call, (*nexts, *[nexts[-1]] * (len(outcomes_of(call[1])) - len(nexts))))


def made(*rows):
    """A machine of rows in any order, the first one excepted."""
    return Machine(by_breadth(rows))


def line(*calls, last=("yes",)):
    """A machine that makes these calls one after another, whatever is answered."""
    return Machine([*[row(call, at + 1) for at, call in enumerate(calls)], end(*last)])


def told(function, *values, **more):
    """What a function returns, or what it raises about the search."""
    try:
        return function(*values, **more)
    except OutOfStep as error:
        return "out of step", error.asked
    except TooMany as error:
        return "too many", error.limit


def chance_machine(chance, pool, ends):
    many = chance.randint(1, 8)
    rows = []
    for _ in range(many):
        if chance.random() < 0.4:
            rows.append(("end", chance.choice(ends)))
        else:
            call = chance.choice(pool)
            rows.append(("call", call, tuple(chance.randrange(many) for _ in outcomes_of(call[1]))))
    return Machine(by_breadth(rows))


def chance_pair(seed):
    """Two machines, of which the second one is often much like the first one, and a relation."""
    chance = random.Random(seed)
    pool = chance.choice(POOLS)
    ends = chance.choice((ENDS, ENDS[:1], ENDS[:2], ENDS[6:], ENDS[2:6]))
    first = chance_machine(chance, pool, ends)
    kind = seed % 3
    if kind == 0:
        return first, chance_machine(chance, pool, ends), chance.choice(RELATIONS)
    rows = doubled(chance, first.listed(), chance.randint(0, 5))
    if kind == 1:
        rows[chance.randrange(len(rows))] = ("end", chance.choice(ENDS))
    return first, Machine(by_breadth(rows)), chance.choice(RELATIONS)


class Checks(unittest.TestCase):
    def check(self, wanted, first, second, relation="same", **more):
        found = clash(first, second, relation, **more)
        self.assertEqual(found, wanted)
        if wanted is not None:
            one, _ = steady_end(first, found)
            other, items = steady_end(second, found)
            self.assertFalse(related(relation, one, other, items))

    def out_of_step(self, asked, first, second, relation="same"):
        with self.assertRaises(OutOfStep) as caught:
            clash(first, second, relation)
        self.assertEqual(caught.exception.asked, asked)


class ClashTest(Checks):
    def test_ends_at_once(self):
        self.check([], Machine([YES]), Machine([NO]))
        self.check(None, Machine([YES]), Machine([NO]), "opposite")
        self.check([], Machine([YES]), Machine([YES]), "opposite")
        self.check(None, Machine([YES]), Machine([end("count", 3)]), "nonzero")
        self.check([], Machine([YES]), Machine([end("count", 0)]), "nonzero")
        self.check(None, Machine([end("count", 0)]), Machine([DONE]), "counts")
        self.check([], Machine([end("count", 1)]), Machine([DONE]), "counts")
        for relation in RELATIONS:
            self.check(None, Machine([end("deep")]), Machine([end("raised", "step")]), relation)
            self.check([], Machine([end("deep")]), Machine([GOT]), relation)

    def test_a_machine_and_itself(self):
        chance = random.Random(5)
        for seed in range(60):
            scene = chance_scene(seed, bodies=seed % 4, rooted=seed % 2 == 0)
            for operation in OPERATIONS:
                machine = machine_of(scene, operation)
                twice = Machine(doubled(chance, machine.listed(), 4))
                # A body that asks the item's member again and again may begin a pass again.
                if plain_clash(machine, machine, "same") is None:
                    self.check(None, machine, machine)
                    self.check(None, machine, twice)
                    self.check(None, twice, machine)

    def test_an_endless_walk_beside_itself(self):
        machine = made(row(WALK, 1, 3), row(STEP, 2, 2, 3), row(OF_ITEM, 1, 1, 1, 1, 3), YES)
        twice = made(
            row(WALK, 1, 2), row(STEP, 3, 4, 2), YES, row(OF_ITEM, 5, 1, 5, 1, 2), row(OF_ITEM, 1, 5, 1, 5, 2),
            row(STEP, 4, 4, 2),
        )
        self.check(None, machine, machine)
        self.check(None, machine, twice)
        self.check(None, twice, machine)

    def test_the_shortest_one(self):
        second = Machine([row(LENGTH, 1, 1, 1, 2, 1), row(TRUTH, 3, 2), YES, NO])
        self.check([(LENGTH, None, 0), (TRUTH, None, "yes")], Machine([YES]), second)
        second = Machine([row(LENGTH, 1, 1, 1, 2, 1), row(TRUTH, 3, 3, 3), NO, YES])
        self.check([(LENGTH, None, 3)], Machine([YES]), second)
        second = Machine([row(LENGTH, 1, 1, 2, 2, 2), YES, NO])
        self.check([(LENGTH, None, 2)], Machine([YES]), second)

    def test_outcomes_are_kept(self):
        first = Machine([row(LIKE, 1, 2), row(TRUTH, 3), row(TRUTH, 4), YES, NO])
        second = Machine([row(TRUTH, 1), row(LIKE, 2, 3), YES, NO])
        self.check(None, first, second)
        asked_twice = Machine([row(LIKE, 1, 2), row(LIKE, 3, 4), row(LIKE, 4, 3), YES, NO])
        self.check(None, asked_twice, line())
        with_no = Machine([row(LIKE, 1, 2), row(LIKE, 3, 4), row(LIKE, 3, 4), YES, NO])
        self.check([(LIKE, None, "no")], with_no, line())

    def test_the_second_run_keeps_too(self):
        first = Machine([row(CALL, 1), row(LIKE, 2, 3), YES, NO])
        second = Machine([row(LIKE, 1, 2), row(CALL, 3), row(CALL, 4), NO, YES])
        self.check([(CALL, None, "got"), (LIKE, None, "yes")], first, second)
        self.check(None, first, second, "opposite")

    def test_calls_with_the_item_are_dropped_at_a_step(self):
        for call in (OF_ITEM, WITH_ITEM, (2, "truth", "a", None), (2, "item", "a", 3)):
            outcomes = outcomes_of(call[1])
            first = Machine([row(call, 1), row(STEP, 2), row(call, 3, 4, 3), YES, NO])
            wanted = [(call, None, outcomes[0]), (STEP, (None, 0), "same"), (call, (None, 0), outcomes[1])]
            self.check(wanted, first, line())
        for call in (LIKE, TRUTH, (1, "length", "a", None), (0, "item", "a", 2)):
            many = len(outcomes_of(call[1]))
            firsts = ("call", call, (1, *[2] * (many - 1)))
            rows = [firsts, row(STEP, 3), row(STEP, 4), ("call", call, (5, *[6] * (many - 1))),
                    ("call", call, (6, *[5] * (many - 1))), YES, NO]
            self.check(None, Machine(by_breadth(rows)), line())

    def test_outcomes_of_steps_are_not_kept(self):
        machine = made(row(STEP, 1, 3), row(STEP, 3, 2, 3), NO, YES)
        self.check([(STEP, (None, 0), "same"), (STEP, (None, 1), "other")], machine, line())
        machine = made(row(WALK, 1, 4), row(STEP, 2, 4), row(STEP, 4, 3, 4), NO, YES)
        wanted = [(WALK, None, "walker"), (STEP, (WALK, 0), "same"), (STEP, (WALK, 1), "other")]
        self.check(wanted, machine, line())

    def test_a_walk_is_kept(self):
        """The second machine asks for the same walk, and does not ask anew."""
        machine = Machine([row(WALK, 1, 2), row(STEP, 3), YES, NO])
        self.check(None, machine, machine)
        later = Machine([row(LIKE, 1), row(WALK, 2, 3), row(STEP, 4), YES, NO])
        self.check(None, machine, later)
        self.check([(LIKE, None, "yes"), (WALK, None, "wrong")], later, machine, "opposite")

    def test_places(self):
        calls = [WITH_ITEM, WALK, STEP, OF_ITEM, STEP, WITH_ITEM, BACK, OF_ITEM, BACK_STEP, OF_ITEM, FIRST, UP, TRUTH]
        places = [None, None, (WALK, 0), (WALK, 0), (WALK, 1), (WALK, 1), None, (WALK, 1), (BACK, 0), (BACK, 0),
                  (FIRST, 0), (FIRST, 1), None]
        wanted = [(call, place, outcomes_of(call[1])[0]) for call, place in zip(calls, places)]
        self.check(wanted, line(*calls), line(*calls, last=("no",)))
        self.check(wanted, line(), line(*calls, last=("no",)))
        self.check(wanted, line(*calls, last=("no",)), line())

    def test_the_first_machine_asks_ahead(self):
        first, second = line(LIKE, TRUTH), line(LENGTH, CALL, last=("no",))
        wanted = [(LIKE, None, "yes"), (TRUTH, None, "yes"), (LENGTH, None, 0), (CALL, None, "got")]
        self.check(wanted, first, second)
        self.check(wanted[2:] + wanted[:2], second, first)

    def test_questions_are_ahead_of_steps(self):
        first, second = line(WALK, STEP, LIKE), line(TRUTH, WALK, LENGTH, STEP, last=("no",))
        wanted = [(WALK, None, "walker"), (TRUTH, None, "yes"), (LENGTH, None, 0), (STEP, (WALK, 0), "same"),
                  (LIKE, None, "yes")]
        self.check(wanted, first, second)
        wanted = [wanted[1], wanted[0], *wanted[2:]]
        self.check(wanted, second, first)

    def test_a_step_together(self):
        first = Machine([row(WALK, 1), row(STEP, 2, 3), YES, NO])
        self.check(None, first, made(row(WALK, 1), row(STEP, 3, 2), NO, YES))
        second = Machine([row(WALK, 1), row(STEP, 2, 2), YES])
        self.check([(WALK, None, "walker"), (STEP, (WALK, 0), "other")], first, second)
        items = Machine([row(FIRST, 1, 2), row(UP, 2, 3, 2, 2), YES, NO])
        self.check(None, items, items)
        wanted = [(FIRST, (FIRST, 0), "same"), (UP, (FIRST, 1), "other")]
        self.check(wanted, items, line(FIRST, UP))

    def test_a_step_alone(self):
        walks = Machine([row(WALK, 1), row(STEP, 1, 1, 2), YES])
        self.check(None, walks, Machine([YES]))
        self.check(None, Machine([YES]), walks)
        wanted = [(WALK, None, "walker"), (STEP, (WALK, 0), "out")]
        self.check(wanted, walks, Machine([NO]))
        self.check(wanted, Machine([NO]), walks)
        shorter = Machine([row(WALK, 1), row(STEP, 2), YES])
        longer = Machine([row(WALK, 1), row(STEP, 2), row(STEP, 3, 4), YES, NO])
        wanted = [(WALK, None, "walker"), (STEP, (WALK, 0), "same"), (STEP, (WALK, 1), "other")]
        self.check(wanted, shorter, longer)
        self.check(wanted, longer, shorter)

    def test_rounds_of_the_run_that_goes_on_alone(self):
        first, second = line(WALK, STEP), line(WALK, STEP, OF_ITEM, STEP, BACK, OF_ITEM, BACK_STEP, last=("no",))
        wanted = [
            (WALK, None, "walker"), (STEP, (WALK, 0), "same"), (OF_ITEM, (WALK, 0), "yes"), (STEP, (WALK, 1), "same"),
            (BACK, None, "walker"), (OF_ITEM, (WALK, 1), "yes"), (BACK_STEP, (BACK, 0), "same"),
        ]
        self.check(wanted, first, second)
        self.check(wanted, second, first)


class NeverEndingTest(Checks):
    def test_kept_answers_that_lead_in_a_ring(self):
        ring = Machine([row(LIKE, 0, 0, 0, 0, 1), YES])
        self.check([(LIKE, None, "raise")], ring, line(last=("no",)))
        self.check([(LIKE, None, "raise")], line(last=("no",)), ring)
        self.check(None, Machine([row(LIKE, 0)]), line())
        longer = Machine([row(LIKE, 1, 1, 1, 1, 2), row(TRUTH, 0, 0, 0, 3), YES, NO])
        self.check([(LIKE, None, "raise")], longer, line(last=("no",)))
        self.check([(LIKE, None, "yes"), (TRUTH, None, "raise")], longer, line())

    def test_only_the_other_machine_never_ends(self):
        """Nothing is told of behaviours for which one of the runs never ends."""
        ring = Machine([row(LIKE, 0, 1), YES])
        second = Machine([row(LIKE, 1, 2), NO, YES])
        self.check(None, ring, second)
        self.check(None, second, ring)

    def test_a_walk_without_an_end(self):
        walks = Machine([row(WALK, 1), row(STEP, 1)])
        self.check(None, walks, line())
        self.check(None, line(), walks)
        self.check(None, walks, Machine([row(WALK, 1, 2), row(STEP, 1), NO]))

    def test_a_pass_that_begins_again(self):
        again = Machine([row(WALK, 0)])
        self.out_of_step(WALK, again, line())
        self.out_of_step(WALK, line(), again)
        self.out_of_step(FIRST, Machine([row(FIRST, 0)]), line())
        self.out_of_step(BACK, line(), Machine([row(BACK, 1), row(LIKE, 0)]))
        self.out_of_step(WALK, line(WALK, STEP, WALK), line())

    def test_a_ring_with_a_pass_in_it(self):
        """It comes again to the pass first; so it is out of step, and not left out."""
        self.out_of_step(WALK, Machine([row(WALK, 1), row(LIKE, 0)]), line())
        self.out_of_step(WALK, Machine([row(LIKE, 1), row(WALK, 0)]), line())

    def test_a_ring_by_kept_answers_with_a_pass_in_it(self):
        """It comes again to like, which it passed by the outcome that is kept now, ahead of the pass."""
        ring = Machine([row(LIKE, 1), row(WALK, 0)])
        self.check(None, line(WALK), ring)
        self.out_of_step(WALK, ring, line(WALK))
        self.out_of_step(WALK, line(WALK), Machine([row(LIKE, 1), row(WALK, 2), row(WALK, 0)]))

    def test_kept_by_the_other_run(self):
        """The second run passes the walk once, by what the first one was answered."""
        second = Machine([row(WALK, 1), row(LIKE, 0)])
        self.out_of_step(WALK, line(WALK, LIKE), second)
        wanted = [(WALK, None, "walker"), (LIKE, None, "yes"), (TRUTH, None, "yes")]
        self.check(wanted, line(WALK, LIKE, TRUTH), line(LIKE, WALK, TRUTH, last=("no",)))


class OutOfStepTest(Checks):
    def test_other_walks(self):
        walk, step = (1, "walk", "a", None), (1, "step", "a", "walk")
        self.out_of_step(STEP, line(WALK, STEP), line(walk, step))
        self.out_of_step(step, line(walk, step), line(WALK, STEP))
        walk, step = (0, "walk", "b", None), (0, "step", "b", "walk")
        self.out_of_step(STEP, line(WALK, STEP), line(walk, step))
        self.out_of_step(BACK_STEP, line(BACK, BACK_STEP), line(WALK, STEP))

    def test_walks_beside_items(self):
        self.out_of_step(STEP, line(WALK, STEP), line(FIRST))
        self.out_of_step(FIRST, line(FIRST), line(WALK, STEP))
        self.out_of_step(UP, line(FIRST, UP), line(FIRST, STEP))

    def test_the_same_step_with_another_begin(self):
        self.out_of_step(STEP, line(WALK, STEP), line(STEP))
        self.out_of_step(STEP, line(STEP), line(WALK, STEP))
        self.out_of_step(STEP, line(WALK, BACK, STEP), line(WALK, STEP))
        self.out_of_step(STEP, line(WALK, BACK, STEP), line(BACK, WALK, STEP))
        self.check(None, line(WALK, BACK, STEP), line(LIKE, WALK, BACK, STEP))
        self.check(None, line(BACK, WALK, STEP), line(WALK, STEP))

    def test_the_first_machine_else_the_second(self):
        self.out_of_step(FIRST, line(FIRST, FIRST), line(FIRST, UP))
        self.out_of_step(FIRST, line(FIRST, UP), line(FIRST, FIRST))
        first, second = line(WALK, BACK, WALK), line(WALK, BACK, BACK)
        self.out_of_step(WALK, first, second)
        self.out_of_step(BACK, second, first)

    def test_ahead_of_the_next_question(self):
        self.out_of_step(WALK, line(WALK, LIKE), line(WALK, WALK))
        self.out_of_step(WALK, line(WALK, WALK), line(WALK, LIKE))
        self.out_of_step(FIRST, line(FIRST, STEP), line(FIRST, FIRST))

    def test_a_question_is_ahead_of_other_steps(self):
        first = Machine([row(WALK, 1), row(STEP, 2), YES])
        second = Machine([row(BACK, 1), row(LIKE, 2, 3), row(BACK_STEP, 4), NO, YES])
        self.out_of_step(STEP, first, second)
        second = Machine([row(BACK, 1, 2), row(BACK_STEP, 3), NO, YES])
        self.out_of_step(STEP, first, second)

    def test_by_what_comes_first(self):
        """A clash ahead of the state that is out of step is found; behind it, it is not."""
        walks = Machine([row(WALK, 1, 2), row(STEP, 2), YES])
        for outcome, wanted in (("yes", True), ("raise", False)):
            nexts = [3 if word == outcome else 2 for word in outcomes_of("truth")]
            rows = by_breadth([row(WALK, 1), ("call", TRUTH, tuple(nexts)), row(BACK_STEP, 3), NO])
            second = Machine(rows)
            first = Machine([row(WALK, 1), row(TRUTH, 2, 2, 2, 3), YES, row(STEP, 2)])
            if wanted:
                self.check([(WALK, None, "walker"), (TRUTH, None, "yes")], first, second)
            else:
                self.check([(WALK, None, "walker"), (TRUTH, None, "yes"), (BACK_STEP, (WALK, 0), "same")], first, second)
        self.out_of_step(STEP, walks, line(BACK, BACK_STEP, last=("no",)))


class CountsTest(Checks):
    def walk_of(self, items, last):
        """A machine that ends so behind a walk of so many items; otherwise it has no answer."""
        steps = [row(STEP, at + 3, at + 3, 1) for at in range(items)]
        return made(row(WALK, 2, 1), end("deep"), *steps, last)

    def test_counts_beside_items(self):
        for items in range(8):
            for number in range(5):
                first, second = self.walk_of(items, end("count", number)), self.walk_of(items, DONE)
                wanted = [(WALK, None, "walker"), *[(STEP, (WALK, at), "same") for at in range(items)]]
                self.check(None if items == number else wanted, first, second, "counts")

    def test_only_items_of_the_second_run_count(self):
        first = line(STEP, STEP, last=("count", 2))
        self.check([(STEP, (None, 0), "same"), (STEP, (None, 1), "same")], first, Machine([DONE]), "counts")
        first = line(STEP, STEP, last=("count", 0))
        self.check(None, first, Machine([DONE]), "counts")

    def test_items_by_an_index_count_too(self):
        calls = [(0, "item", "a", at) for at in (2, 1, 0)]
        rows = [row(calls[0], 1, 1, 3), row(calls[1], 2, 2, 3), row(calls[2], 4, 4, 3), end("deep"), DONE]
        rows = by_breadth(rows)
        first = Machine([row(calls[0], 1, 1, 2), row(calls[1], 3, 3, 2), end("deep"), row(calls[2], 4, 4, 2),
                         end("count", 3)])
        self.check(None, first, Machine(rows), "counts")
        first = Machine([*first.listed()[:4], end("count", 2)])
        self.check([(call, None, "same") for call in calls], first, Machine(rows), "counts")

    def test_many_items(self):
        """5 stands for all above 4, so a walk that goes on for ever is searched to its end."""
        first = Machine([row(WALK, 1, 2), row(STEP, 1, 1, 2), end("deep")])
        second = Machine([row(WALK, 1, 2), row(STEP, 1, 1, 2), end("raised", "walk")])
        # The start, wrong and raise; and for 0 to 5 items the step, and what is behind it.
        self.assertIsNone(clash(first, second, "counts", most=3 + 6 + 6))
        with self.assertRaises(TooMany):
            clash(first, second, "counts", most=3 + 6 + 5)
        for relation in ("same", "nonzero", "opposite"):
            self.assertIsNone(clash(first, second, relation, most=3 + 1 + 1))
            with self.assertRaises(TooMany):
                clash(first, second, relation, most=3 + 1)


class LimitsTest(Checks):
    def test_how_many_states(self):
        machine = Machine([row(TRUTH, 1, 2), row(LENGTH, 3), row(LENGTH, 4), YES, NO])
        # The start, a state for each outcome of truth, and behind each one a state for each of length.
        many = 1 + 4 + 4 * 7
        self.assertIsNone(clash(machine, machine, "same", most=many))
        for most in (1, 4, 5, many - 1):
            with self.assertRaises(TooMany) as caught:
                clash(machine, machine, "same", most=most)
            self.assertEqual(caught.exception.limit, most)

    def test_the_start_alone(self):
        self.assertIsNone(clash(Machine([YES]), Machine([YES]), "same", most=1))
        self.assertEqual(clash(Machine([YES]), Machine([NO]), "same", most=1), [])
        self.assertIsNone(clash(Machine([row(LIKE, 0)]), Machine([YES]), "same", most=1))

    def test_all_states_behind_one_are_met_first(self):
        """The clash is the first state behind the start, but the last one is met ahead of it."""
        second = line(TRUTH, last=("no",))
        self.assertEqual(clash(line(), second, "same", most=5), [(TRUTH, None, "yes")])
        with self.assertRaises(TooMany):
            clash(line(), second, "same", most=4)
        with self.assertRaises(TooMany):
            clash(Machine([row(WALK, 0)]), line(), "same", most=3)
        with self.assertRaises(OutOfStep):
            clash(Machine([row(WALK, 0)]), line(), "same", most=4)

    def test_the_limit_of_its_own(self):
        calls = [(operand, method, "a", None) for operand in (0, 1) for method in ("truth", "length", "hash")]
        machine = line(*calls)
        with self.assertRaises(TooMany) as caught:
            clash(machine, machine, "same")
        self.assertEqual(caught.exception.limit, 4000)
        for most in (4000, 20000):
            with self.assertRaises(TooMany) as caught:
                clash(machine, machine, "same", most=most)
            self.assertEqual(caught.exception.limit, most)
        many = 1 + 4 + 4 * 7 * (1 + 7 + 7 * 4)
        self.assertIsNone(clash(line(*calls[:4]), line(*calls[:4]), "same", most=many))
        with self.assertRaises(TooMany):
            clash(line(*calls[:4]), line(*calls[:4]), "same", most=many - 1)

    def test_a_machine_of_many_rows(self):
        machine = line(*[LIKE] * 9999)
        self.assertIsNone(clash(machine, machine, "same"))


class ErrorsTest(unittest.TestCase):
    def test_no_machine(self):
        machine = Machine([YES])
        for value in NO_NAMES + ([YES], Machine, EqualToAll(), RefusesAll()):
            for first, second in ((value, machine), (machine, value), (value, value)):
                with self.assertRaises(NoMachine) as caught:
                    clash(first, second, "sames", most=0)
                self.assertIsNone(caught.exception.row)

    def test_no_relation(self):
        for value in NO_NAMES + ("sames", "Same", ("same",), "count"):
            with self.assertRaises(NoRelation) as caught:
                clash(Machine([YES]), Machine([NO]), value, most=0)
            self.assertIs(caught.exception.value, value)

    def test_no_number(self):
        for value in STRANGE + (0, -1, 20001, True, False, 10 ** 30, "4000", 400.0):
            with self.assertRaises(NoNumber) as caught:
                clash(line(WALK, WALK), Machine([NO]), "same", most=value)
            self.assertIs(caught.exception.value, value)
        for most in (1, 20000):
            self.assertEqual(clash(Machine([YES]), Machine([NO]), "same", most=most), [])

    def test_by_name(self):
        self.assertEqual(clash(most=9, relation="same", second=Machine([NO]), first=Machine([YES])), [])
        with self.assertRaises(TypeError):
            clash(Machine([YES]), Machine([NO]), "same", 9)

    def test_a_new_list(self):
        found = clash(line(), line(LIKE, last=("no",)), "same")
        found.clear()
        self.assertEqual(len(clash(line(), line(LIKE, last=("no",)), "same")), 1)


class ChanceTest(unittest.TestCase):
    def test_beside_the_plain_search(self):
        kinds = set()
        for seed in range(1500):
            first, second, relation = chance_pair(seed)
            most = (4000, 10, 25)[seed % 4 % 3]
            found = told(clash, first, second, relation, most=most)
            self.assertEqual(found, plain_clash(first, second, relation, most), seed)
            kinds.add(found[0] if isinstance(found, tuple) else found is None)
        self.assertEqual(kinds, {"out of step", "too many", True, False})

    def test_too_many_exactly(self):
        met = 0
        for seed in range(150):
            first, second, relation = chance_pair(seed)
            whole = plain_clash(first, second, relation)
            if whole is None or isinstance(whole, list):
                limits = [most for most in range(1, 80) if told(clash, first, second, relation, most=most) == whole]
                self.assertEqual(limits, list(range(80 - len(limits), 80)))
                if limits[:1] > [1]:
                    met += 1
                    self.assertEqual(plain_clash(first, second, relation, limits[0] - 1), ("too many", limits[0] - 1))
        self.assertGreater(met, 20)

    def behaviour(self, chance, first, second):
        """Outcomes for all questions of two runs, made by chance as they are needed; None if one never ends."""
        answers = []
        while len(answers) < 16:
            places = []
            for machine in (first, second):
                try:
                    places.append(steady_end(machine, answers))
                except Unanswered as error:
                    call = error.asked
                    known = self.place_of(machine, answers)
                    answers.append((call, known, chance.choice(outcomes_of(call[1]))))
                    break
            if len(places) == 2:
                return None if places[0][0] is None or places[1][0] is None else (answers, places)
        return None

    def place_of(self, machine, answers):
        """The place of the first question that is not answered: tried with all places there may be."""
        walk = machine.walk()
        script = []
        while True:
            call, place, _ = questions(machine, [*script, "raise"])[-1]
            outcomes = [outcome for asked, where, outcome in answers if (asked, where) == (call, place)]
            if not outcomes:
                return place
            script.append(outcomes[0])
            walk(outcomes[0])

    def test_steady_behaviours(self):
        """If there is no clash, no behaviour has ends that are not related; else none has, that is shorter."""
        tried = 0
        for seed in range(500):
            first, second, relation = chance_pair(seed)
            found = told(clash, first, second, relation)
            if isinstance(found, tuple):
                continue
            chance = random.Random(seed)
            for _ in range(10):
                behaviour = self.behaviour(chance, first, second)
                if behaviour is not None:
                    tried += 1
                    answers, ((one, _), (other, items)) = behaviour
                    if not related(relation, one, other, items):
                        self.assertIsNotNone(found)
                        self.assertLessEqual(len(found), len(answers))
        self.assertGreater(tried, 1500)
