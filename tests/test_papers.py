import random
import unittest

from answersby.alike import parting
from answersby.errors import NoMachine, NoPaper, Parted
from answersby.machines import Machine, machine_of
from answersby.papers import Paper, gap, paper_of
from made import chance_rows, doubled
from samples import NO_NAMES, NUMBERS, STRANGE, EqualToAll, RefusesAll, deep
from scenery import three

YES, NO = ("end", ("yes",)), ("end", ("no",))
HAS = ("call", (0, "has", "a", 1))


class PaperTest(unittest.TestCase):
    def check(self, paper, pairs):
        self.assertEqual(list(paper), pairs)
        self.assertEqual(paper.listed(), pairs)
        self.assertEqual(len(paper), len(pairs))

    def test_doubles_and_order(self):
        pairs = [(3, 1), (0, 7), (3, 1), (0, 0), (0, 10), (2, 9999), (0, 7)]
        wanted = [(0, 0), (0, 7), (0, 10), (2, 9999), (3, 1)]
        self.check(Paper(pairs), wanted)
        self.check(Paper(tuple(pairs)), wanted)
        self.check(Paper(pairs=pairs[::-1]), wanted)
        self.check(Paper([]), [])
        self.check(Paper(()), [])
        self.check(Paper([(9999, 9999)]), [(9999, 9999)])

    def test_lists_are_new_and_copied(self):
        pairs = [(1, 0), (0, 0)]
        paper = Paper(pairs)
        self.assertEqual(pairs, [(1, 0), (0, 0)])
        pairs.clear()
        paper.listed().clear()
        self.check(paper, [(0, 0), (1, 0)])
        self.assertEqual(list(zip(paper, paper)), [((0, 0), (0, 0)), ((1, 0), (1, 0))])

    def test_in(self):
        paper = Paper([(0, 1), (1, 0), (9999, 3)])
        for pair in ((0, 1), (1, 0), (9999, 3)):
            self.assertIs(pair in paper, True)
        for value in (*STRANGE, *NUMBERS, (0, 0), (1, 1), (True, False), (False, True), (0, True), (0.0, 1), (0, 1.0),
                      [0, 1], (0, 1, 0), (0,), ((0, 1),), (9999, 4), (10 ** 30, 0), (-1, 0), ([], 0), (0, EqualToAll()),
                      (RefusesAll(), 1), "01", deep(2000), paper):
            self.assertIs(value in paper, False)

    def test_equal(self):
        paper = Paper([(0, 1), (1, 0)])
        self.assertEqual(paper, Paper(((1, 0), (0, 1), (1, 0))))
        self.assertEqual(Paper([]), Paper(()))
        for pairs in ([(0, 1)], [(0, 1), (1, 0), (1, 1)], [(1, 0), (1, 1)], []):
            self.assertNotEqual(paper, Paper(pairs))
        for value in STRANGE + ([(0, 1), (1, 0)], ((0, 1), (1, 0)), {(0, 1), (1, 0)}):
            if not isinstance(value, (EqualToAll, RefusesAll)):
                self.assertNotEqual(paper, value)

    def test_invert(self):
        paper = Paper([(0, 5), (1, 2), (3, 2)])
        self.check(~paper, [(2, 1), (2, 3), (5, 0)])
        self.check(paper, [(0, 5), (1, 2), (3, 2)])
        self.assertEqual(~~paper, paper)
        self.check(~Paper([]), [])

    def test_product(self):
        first = Paper([(0, 1), (0, 2), (3, 1), (4, 9)])
        second = Paper([(1, 7), (1, 0), (2, 0), (5, 5), (8, 8)])
        self.check(first * second, [(0, 0), (0, 7), (3, 0), (3, 7)])
        self.check(second * first, [(1, 1), (1, 2), (2, 1), (2, 2)])
        self.check(first, [(0, 1), (0, 2), (3, 1), (4, 9)])
        self.check(second, [(1, 0), (1, 7), (2, 0), (5, 5), (8, 8)])
        self.check(first * Paper([]), [])
        self.check(Paper([]) * first, [])
        self.check(first * first, [])

    def test_products_by_chance(self):
        for seed in range(50):
            chance = random.Random(seed)
            pairs, others = [
                [(chance.randrange(6), chance.randrange(6)) for _ in range(chance.randrange(9))] for _ in range(2)
            ]
            wanted = sorted({(a, c) for a, b in pairs for d, c in others if b == d})
            self.check(Paper(pairs) * Paper(others), wanted)
            self.assertEqual(~(Paper(pairs) * Paper(others)), ~Paper(others) * ~Paper(pairs))

    def test_large_products(self):
        rows = Paper([(at, at) for at in range(9000)])
        self.assertEqual(rows * rows, rows)

    def test_no_pairs(self):
        for value in NO_NAMES + ("ab", {(0, 0): 1}, {(0, 0)}, iter([(0, 0)]), Paper([(0, 0)])):
            if not isinstance(value, (list, tuple)):
                with self.assertRaises(NoPaper) as caught:
                    Paper(value)
                self.assertIsNone(caught.exception.index)

    def test_wrong_items(self):
        numbers = (*STRANGE, True, False, -1, 10000, 10 ** 30, "0")
        pairs = [(0, value) for value in numbers] + [(value, 0) for value in numbers]
        for value in (*STRANGE, *NUMBERS, *pairs, [0, 0], (0,), (0, 0, 0), "00", ((0, 0),)):
            for items in ([value], [(0, 0), value], ((0, 0), (1, 1), value, None), [(3, 3), (2, 2), (2, 2), value, value]):
                with self.assertRaises(NoPaper) as caught:
                    Paper(items)
                wanted = [at for at, item in enumerate(items) if item is value][0]
                self.assertEqual(caught.exception.index, wanted)


class PaperOfTest(unittest.TestCase):
    def test_by_hand(self):
        self.assertEqual(paper_of(Machine([YES]), Machine([YES])).listed(), [(0, 0)])
        first = Machine([(*HAS, (0, 0, 0, 1)), YES])
        second = Machine([(*HAS, (1, 0, 1, 2)), (*HAS, (1, 1, 1, 3)), YES, YES])
        self.assertEqual(paper_of(first, first).listed(), [(0, 0), (1, 1)])
        self.assertEqual(paper_of(first, second).listed(), [(0, 0), (0, 1), (1, 2), (1, 3)])
        self.assertEqual(paper_of(second=first, first=second), ~paper_of(first, second))

    def test_the_least_one(self):
        """Taking any pair away leaves a gap; larger ones are closed as well."""
        for seed in range(60):
            chance = random.Random(seed)
            rows = chance_rows(chance, chance.randint(1, 6), calls=2)
            first, second = Machine(doubled(chance, rows, 3)), Machine(doubled(chance, rows, 3))
            paper = paper_of(first, second)
            self.assertIsNone(gap(paper, first, second))
            for pair in paper:
                smaller = Paper([other for other in paper if other != pair])
                self.assertIsNotNone(gap(smaller, first, second))
            self.assertIsNone(gap(~paper, second, first))
            self.assertIsNone(gap(paper * ~paper, first, first))

    def test_parted(self):
        for seed in range(100):
            chance = random.Random(seed)
            first, second = [Machine(chance_rows(chance, chance.randint(1, 6), calls=1)) for _ in range(2)]
            script = parting(first, second)
            if script is None:
                self.assertEqual(first, second)
                self.assertIsNone(gap(paper_of(first, second), first, second))
            else:
                with self.assertRaises(Parted) as caught:
                    paper_of(first, second)
                self.assertEqual(caught.exception.script, script)
                self.assertIsInstance(caught.exception.script, list)

    def test_parted_by_hand(self):
        with self.assertRaises(Parted) as caught:
            paper_of(Machine([(*HAS, (0, 0, 1, 0)), YES]), Machine([(*HAS, (0, 0, 1, 0)), NO]))
        self.assertEqual(caught.exception.script, ["wrong"])
        with self.assertRaises(Parted) as caught:
            paper_of(Machine([YES]), Machine([NO]))
        self.assertEqual(caught.exception.script, [])

    def test_operations(self):
        scene = three({(0, "walk"): "native", (2, "like"): "native"})
        machine = machine_of(scene, "member")
        self.assertEqual(paper_of(machine, machine).listed(), [(at, at) for at in range(len(machine))])

    def test_no_machine(self):
        for value in NO_NAMES + ([YES], Machine):
            for given in ((value, Machine([YES])), (Machine([YES]), value), (value, value)):
                with self.assertRaises(NoMachine) as caught:
                    paper_of(*given)
                self.assertIsNone(caught.exception.row)


class GapTest(unittest.TestCase):
    first = Machine([(*HAS, (1, 2, 3, 0)), (*HAS, (1, 1, 1, 3)), NO, YES])
    closed = [(0, 0), (1, 1), (2, 2), (3, 3)]

    def gap(self, pairs):
        return gap(Paper(pairs), self.first, self.first)

    def test_closed(self):
        self.assertIsNone(self.gap(self.closed))
        self.assertIsNone(gap(second=self.first, first=self.first, paper=Paper(self.closed)))

    def test_a_larger_closed_paper(self):
        twice = Machine([(*HAS, (1, 2, 0, 0)), YES, YES])
        pairs = [(0, 0), (1, 1), (1, 2), (2, 1), (2, 2)]
        self.assertIsNone(gap(Paper(pairs), twice, twice))
        self.assertEqual(len(paper_of(twice, twice)), 3)

    def test_the_start_is_missing(self):
        for pairs in ([], [(1, 1), (3, 3)], [(0, 1), (9, 9)], self.closed[1:]):
            self.assertEqual(self.gap(pairs), (0, 0))

    def test_no_rows(self):
        self.assertEqual(self.gap([*self.closed, (4, 3)]), (4, 3))
        self.assertEqual(self.gap([*self.closed, (3, 4)]), (3, 4))
        self.assertEqual(self.gap([*self.closed, (9999, 9999), (4, 4)]), (4, 4))
        longer = Machine([(*HAS, (1, 2, 3, 0)), (*HAS, (1, 1, 1, 3)), NO, (*HAS, (3, 3, 3, 4)), YES])
        self.assertEqual(gap(Paper([(0, 0), (4, 0)]), longer, Machine([(*HAS, (0, 0, 0, 0))])), (0, 0))
        self.assertEqual(gap(Paper([(0, 0), (1, 4)]), Machine([YES]), Machine([YES])), (1, 4))

    def test_rows_that_differ(self):
        self.assertEqual(self.gap([*self.closed, (2, 3)]), (2, 3))
        self.assertEqual(self.gap([*self.closed, (3, 2), (2, 1)]), (2, 1))
        self.assertEqual(gap(Paper([(0, 0)]), Machine([YES]), Machine([NO])), (0, 0))
        other = Machine([("call", (0, "has", "b", 1), (0, 0, 0, 0))])
        self.assertEqual(gap(Paper([(0, 0)]), Machine([(*HAS, (0, 0, 0, 0))]), other), (0, 0))

    def test_nexts_that_are_missing(self):
        self.assertEqual(self.gap([(0, 0), (1, 1), (2, 2)]), (0, 0))
        self.assertEqual(self.gap([(0, 0), (1, 1), (3, 3)]), (0, 0))
        self.assertEqual(self.gap([(0, 0), (2, 2), (3, 3)]), (0, 0))
        self.assertEqual(self.gap([*self.closed, (0, 1)]), (0, 1))
        self.assertEqual(self.gap([*self.closed, (1, 0), (0, 1)]), (0, 1))
        self.assertEqual(self.gap([*self.closed, (1, 0)]), (1, 0))
        last = Machine([(*HAS, (0, 0, 1, 0)), (*HAS, (0, 0, 0, 2)), YES])
        self.assertEqual(gap(Paper([(0, 0), (1, 1)]), last, last), (1, 1))

    def test_places_of_the_nexts(self):
        """The pairs of the nexts are those of one place, not of two."""
        first = Machine([(*HAS, (1, 2, 1, 1)), YES, NO])
        second = Machine([(*HAS, (1, 2, 2, 2)), NO, YES])
        self.assertEqual(gap(Paper([(0, 0), (1, 2), (2, 1)]), first, second), (0, 0))
        self.assertEqual(gap(Paper([(0, 0), (1, 2)]), first, Machine([(*HAS, (1, 1, 2, 2)), NO, YES])), (0, 0))

    def test_the_errors_in_their_order(self):
        paper = Paper([(0, 0)])
        for value in NO_NAMES + ([(0, 0)], ((0, 0),), Paper, self.first):
            for machine in (self.first, None, 0):
                with self.assertRaises(NoPaper) as caught:
                    gap(value, machine, None)
                self.assertIsNone(caught.exception.index)
        for value in NO_NAMES + ([YES], paper):
            for given in ((value, self.first), (self.first, value), (value, value)):
                with self.assertRaises(NoMachine) as caught:
                    gap(paper, *given)
                self.assertIsNone(caught.exception.row)
