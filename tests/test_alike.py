import random
import unittest

from answersby.alike import alike_rows, parting
from answersby.books import Book
from answersby.errors import NoMachine, NoPair
from answersby.machines import Machine, machine_of
from answersby.names import outcomes_of
from made import chance_rows, doubled, plain_alike
from samples import NO_NAMES, STRANGE, EqualToAll, RefusesAll, deep
from scenery import three

YES, NO = ("end", ("yes",)), ("end", ("no",))
HAS = ("call", (0, "has", "a", 1))
STEP = ("call", (0, "step", "a", "walk"))


def plain_parting(first, second, start):
    """The same by trying all scripts, the shorter ones first, in the order of outcomes."""
    scripts = [([], start)]
    met = [start]
    for script, (one, other) in scripts:
        row, beside = first[one], second[other]
        if row[:2] != beside[:2]:
            return script
        if row[0] == "call":
            for outcome, *behind in zip(outcomes_of(row[1][1]), row[2], beside[2]):
                if tuple(behind) not in met:
                    met.append(tuple(behind))
                    scripts.append(([*script, outcome], tuple(behind)))
    return None


class PartingTest(unittest.TestCase):
    def test_ends(self):
        self.assertIsNone(parting(Machine([YES]), Machine([YES])))
        self.assertEqual(parting(Machine([YES]), Machine([NO])), [])
        self.assertEqual(parting(Machine([YES]), Machine([("end", ("count", 1))])), [])
        self.assertEqual(parting(Machine([("end", ("count", 2))]), Machine([("end", ("count", 1))])), [])

    def test_calls(self):
        has = Machine([(*HAS, (0, 0, 0, 0))])
        for call in ((0, "has", "b", 1), (0, "has", "a", 2), (1, "has", "a", 2), (0, "truth", "a", None)):
            self.assertEqual(parting(has, Machine([("call", call, (0, 0, 0, 0))])), [])
        self.assertEqual(parting(has, Machine([YES])), [])
        self.assertIsNone(parting(has, Machine([(*HAS, (1, 1, 1, 0)), (*HAS, (0, 1, 1, 1))])))

    def test_each_outcome(self):
        for at, outcome in enumerate(("yes", "no", "wrong", "raise")):
            nexts = (0,) * at + (1,) + (0,) * (3 - at)
            self.assertEqual(parting(Machine([(*HAS, (0, 0, 0, 0))]), Machine([(*HAS, nexts), YES])), [outcome])
            self.assertEqual(parting(Machine([(*HAS, nexts), NO]), Machine([(*HAS, nexts), YES])), [outcome])

    def test_counts_are_numbers(self):
        hashes = ("call", (0, "hash", "a", None))
        first = Machine([(*hashes, (0, 0, 0, 0, 0, 0, 0))])
        got = parting(first, Machine([(*hashes, (0, 0, 0, 1, 0, 0, 0)), YES]))
        self.assertEqual(got, [3])
        self.assertIs(type(got[0]), int)

    def test_the_shortest(self):
        first = Machine([(*HAS, (1, 2, 1, 1)), (*HAS, (0, 0, 0, 3)), NO, YES])
        second = Machine([(*HAS, (1, 2, 1, 1)), (*HAS, (0, 0, 0, 3)), YES, NO])
        self.assertEqual(parting(first, second), ["no"])
        second = Machine([(*HAS, (1, 2, 1, 1)), (*HAS, (0, 0, 0, 2)), NO])
        self.assertEqual(parting(first, second), ["yes", "raise"])

    def test_the_first_of_the_shortest(self):
        """Behind yes and no, and there behind no and yes."""
        first = Machine([(*HAS, (1, 2, 0, 0)), (*HAS, (0, 3, 3, 0)), (*HAS, (4, 0, 0, 0)), YES, YES])
        second = Machine([(*HAS, (1, 2, 0, 0)), (*HAS, (0, 3, 3, 0)), (*HAS, (4, 0, 0, 0)), NO, NO])
        self.assertEqual(parting(first, second), ["yes", "no"])
        self.assertEqual(parting(first, second, start=(2, 2)), ["yes"])

    def test_start(self):
        first = Machine([(*HAS, (1, 2, 0, 0)), YES, NO])
        second = Machine([(*HAS, (1, 1, 2, 0)), NO, YES])
        self.assertEqual(parting(first, second), ["yes"])
        self.assertEqual(parting(first, second, start=(0, 0)), ["yes"])
        self.assertEqual(parting(first, second, start=(1, 1)), [])
        self.assertEqual(parting(first, second, start=(0, 1)), [])
        self.assertEqual(parting(first, second, start=(1, 0)), [])
        self.assertIsNone(parting(first, second, start=(1, 2)))
        self.assertIsNone(parting(first, second, start=(2, 1)))
        self.assertIsNone(parting(start=(2, 1), second=second, first=first))
        with self.assertRaises(TypeError):
            parting(first, second, (0, 0))

    def test_by_chance(self):
        parted = 0
        for seed in range(150):
            chance = random.Random(seed)
            rows = chance_rows(chance, chance.randint(1, 7), calls=1)
            others = doubled(chance, rows, 4) if seed % 2 else chance_rows(chance, chance.randint(1, 7), calls=1)
            first, second = Machine(rows), Machine(others)
            for one in range(len(rows)):
                for other in range(len(others)):
                    wanted = plain_parting(rows, others, (one, other))
                    parted += wanted is not None and len(wanted) > 1
                    self.assertEqual(parting(first, second, start=(one, other)), wanted)
            self.assertIs(parting(first, second) is None, first == second)
        self.assertGreater(parted, 50)

    def test_machines_of_operations(self):
        scene = three({(0, "walk"): "native", (2, "like"): "native"})
        table = scene.table()
        table["left", "item"] = "native"
        later = scene.over(table)
        member = machine_of(scene, "member")
        self.assertIsNone(parting(member, machine_of(later, "member")))
        table["right", "like"] = "native"
        self.assertEqual(parting(member, machine_of(scene.over(table), "member")), ["walker", "other", "decline"])
        table.set_book(Book.bare())
        self.assertEqual(parting(member, machine_of(scene.over(table), "member")), [])

    def test_machines_stay(self):
        first, second = Machine([(*HAS, (0, 0, 0, 1)), YES]), Machine([(*HAS, (0, 0, 0, 1)), NO])
        parting(first, second).clear()
        self.assertEqual(parting(first, second), ["raise"])
        self.assertEqual((len(first), list(second)), (2, [(*HAS, (0, 0, 0, 1)), NO]))

    def test_long_machines(self):
        rows = [(*HAS, (at + 1, at + 1, at + 1, at + 1)) for at in range(2000)]
        self.assertEqual(parting(Machine([*rows, YES]), Machine([*rows, NO])), ["yes"] * 2000)
        self.assertIsNone(parting(Machine([*rows, YES]), Machine([*rows, YES])))

    def test_no_machine(self):
        machine = Machine([YES])
        for value in NO_NAMES + ([YES], (YES,), Machine, machine.walk()):
            for given in ((value, machine), (machine, value), (value, value)):
                for start in ((0, 0), None, (9, 9)):
                    with self.assertRaises(NoMachine) as caught:
                        parting(*given, start=start)
                    self.assertIsNone(caught.exception.row)

    def test_no_pair(self):
        first, second = Machine([(*HAS, (0, 0, 0, 1)), YES]), Machine([(*HAS, (1, 0, 0, 2)), YES, NO])
        wrong = [value for value in STRANGE if not isinstance(value, tuple)]
        pairs = [(2, 0), (0, 3), (-1, 0), (0, -1), (True, 0), (0, False), [0, 0], (0,), (0, 0, 0), (0, None), (None, 0),
                 ("0", 0), (0, 0.0), (10 ** 30, 0), (EqualToAll(), 0), (0, RefusesAll()), (), deep(2000), ((0, 0),)]
        for value in [*wrong, *pairs, 0, 1, True]:
            with self.assertRaises(NoPair) as caught:
                parting(first, second, start=value)
            self.assertIs(caught.exception.value, value)
        for one in (0, 1):
            for other in (0, 1, 2):
                parting(first, second, start=(one, other))


class AlikeRowsTest(unittest.TestCase):
    def test_by_hand(self):
        self.assertEqual(alike_rows(Machine([YES])), [0])
        self.assertEqual(alike_rows(Machine([(*HAS, (1, 2, 3, 4)), YES, NO, YES, NO])), [0, 1, 2, 1, 2])
        rows = [(*HAS, (1, 2, 3, 4)), (*HAS, (2, 3, 4, 4)), (*HAS, (1, 3, 4, 3)), YES, YES]
        self.assertEqual(alike_rows(Machine(rows)), [0, 1, 1, 3, 3])
        rows[4] = NO
        self.assertEqual(alike_rows(Machine(rows)), [0, 1, 2, 3, 4])
        self.assertEqual(alike_rows(Machine([(*HAS, (1, 1, 1, 1)), (*STEP, (0, 0, 0, 0))])), [0, 1])
        self.assertEqual(alike_rows(machine=Machine([(*HAS, (1, 1, 1, 1)), (*HAS, (0, 0, 0, 0))])), [0, 0])

    def test_rows_doubled(self):
        for seed in range(80):
            chance = random.Random(seed)
            rows = doubled(chance, chance_rows(chance, chance.randint(1, 9), calls=2), chance.randint(0, 9))
            machine = Machine(rows)
            self.assertEqual(alike_rows(machine), plain_alike(rows))
            for one, least in enumerate(alike_rows(machine)):
                self.assertIsNone(parting(machine, machine, start=(one, least)))

    def test_a_new_list(self):
        machine = Machine([(*HAS, (1, 2, 1, 2)), YES, YES])
        alike_rows(machine).clear()
        self.assertEqual(alike_rows(machine), [0, 1, 1])

    def test_no_machine(self):
        for value in NO_NAMES + ([YES], Machine):
            with self.assertRaises(NoMachine) as caught:
                alike_rows(value)
            self.assertIsNone(caught.exception.row)
