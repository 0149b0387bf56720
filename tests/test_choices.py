import itertools
import random
import unittest

from answersby.bodies import Body
from answersby.choices import Choices
from answersby.errors import NoScene, NoStock, NoWish, TooMany
from answersby.machines import machine_of
from answersby.names import METHODS
from answersby.stocks import chosen, failing
from oracle import chance_scene, crowded_scene
from samples import NO_NAMES
from scenery import book_of, chain, one, three
from test_stocks import chance_stock, chance_wishes

LIKE = Body("like", ("not", ("ask", "unlike", "self", "other")))
UNLIKE = Body("unlike", ("not", ("ask", "like", "self", "other")))


def plain_choices(scene, stock, wishes):
    """The tuple (choices, cost, floor), by trying every choice of all."""
    choices = list(itertools.product(*[range(len(options)) for _, options in stock]))
    costs = {choice: sum(options[at][0] for at, (_, options) in zip(choice, stock)) for choice in choices}
    evidence = {choice: failing(scene, stock, wishes, choice) for choice in choices}
    good = [choice for choice in choices if evidence[choice] is None]
    cost = min((costs[choice] for choice in good), default=None)
    floor = [(choice, *evidence[choice]) for choice in choices if cost is None or costs[choice] < cost]
    return [choice for choice in good if costs[choice] == cost], cost, floor


class ChoicesTest(unittest.TestCase):
    def check(self, choices, cost, floor):
        found = self.found
        self.assertEqual((found.listed(), list(found), len(found)), (choices, choices, len(choices)))
        self.assertEqual(found.cost, cost)
        self.assertEqual(found.floor(), floor)

    def test_by_hand(self):
        stock = [("like", ((3, "native"), (1, LIKE), (0, None))), ("unlike", ((3, "native"), (1, UNLIKE), (0, None)))]
        wishes = [("answers", "like"), ("agrees", "unlike")]
        self.found = Choices(three(), stock, wishes)
        self.check([(2, 2)], 0, [])
        wishes.append(("refuses", "hash"))
        self.found = Choices(three({(1, "hash"): "native"}), stock, wishes)
        self.check([(2, 2)], 0, [])
        book = three().table().book()
        book.ends_same = False
        self.found = Choices(three((), book), stock, [("agrees", "unlike"), ("answers", "unlike"), ("answers", "like")])
        # Each native method may decline, and the book does not end then.
        natives = [(choice, index, evidence) for choice, index, evidence in self.found.floor() if 0 in choice]
        self.assertIn(((0, 2), 1, ["decline"]), natives)
        self.assertEqual((len(self.found), self.found.cost, len(self.found.floor())), (0, None, 9))

    def test_several_of_equal_cost(self):
        stock = [("truth", ((1, "native"), (0, None))), ("length", ((2, "blocked"), (1, "native"), (0, None)))]
        book = one().table().book()
        book.ends_true = False
        self.found = Choices(one((), book), stock, [("answers", "truth")])
        self.check([(0, 2), (1, 1)], 1, [((1, 2), 0, [])])
        self.found = Choices(one((), book), stock, [("answers", "size"), ("answers", "truth")])
        self.check([(1, 1)], 1, [((1, 2), 0, [])])
        self.found = Choices(one((), book), stock, [("refuses", "size"), ("answers", "truth")])
        self.check([(0, 2)], 1, [((1, 2), 1, [])])
        self.found = Choices(one((), book), stock, [])
        self.check([(1, 2)], 0, [])

    def test_none(self):
        stock = [("truth", ((1, "native"), (0, None))), ("length", ((2, "native"), (0, None)))]
        self.found = Choices(one(), stock, [("answers", "truth"), ("refuses", "truth")])
        self.check([], None, [((0, 0), 1, ["yes"]), ((0, 1), 1, ["yes"]), ((1, 0), 1, [0]), ((1, 1), 1, [])])

    def test_evidence_that_is_none(self):
        has = Body("has", ("ask", "member", "other", "self"))
        scene = three({(0, "walk"): "native", (1, "walk"): "native"})
        self.found = Choices(scene, [("has", ((0, has), (1, None)))], [("agrees", "member")])
        self.check([(1,)], 1, [((0,), 0, None)])

    def test_costs_up_to_6000(self):
        stock = [(method, ((1000, "native"), (999, None))) for method in METHODS[:6]]
        wishes = [("answers", "size"), ("answers", "each")]
        self.found = Choices(one(), stock, wishes)
        self.assertEqual((self.found.cost, self.found.listed()), (5996, [(1, 0, 0, 1, 1, 1), (1, 0, 1, 0, 1, 1)]))
        self.assertEqual(len(self.found.floor()), 7)

    def test_a_new_list_each_time(self):
        stock = [("truth", ((1, "native"), (0, None))), ("length", ((2, "native"), (0, None)))]
        found = Choices(one(), stock, [("agrees", "truth"), ("answers", "size")])
        floor, listed = found.floor(), found.listed()
        self.assertTrue(floor and listed)
        for row in found.floor():
            row[2].append("x")
        found.floor().clear()
        found.listed().clear()
        self.assertEqual((found.floor(), found.listed()), (floor, listed))

    def test_what_is_handed_in_stays(self):
        stock, wishes = [("truth", ((1, "native"), (0, None)))], [("answers", "truth")]
        scene = one({"length": "native"})
        table = scene.table()
        found = Choices(scene, stock, wishes)
        self.assertEqual((stock, wishes), ([("truth", ((1, "native"), (0, None)))], [("answers", "truth")]))
        self.assertEqual(scene.table(), table)
        stock.clear()
        wishes.append(("refuses", "truth"))
        self.assertEqual((found.listed(), found.cost, found.floor()), ([(1,)], 0, []))

    def test_cost_is_not_set(self):
        with self.assertRaises(AttributeError):
            Choices(one(), [("truth", ((1, "native"),))], []).cost = 2

    def test_by_name(self):
        found = Choices(wishes=[], stock=[("truth", ((1, "native"), (1, None)))], scene=one())
        self.assertEqual((found.listed(), found.cost), ([(0,), (1,)], 1))

    def test_by_chance(self):
        kinds = set()
        for seed in range(250):
            chance = random.Random(seed)
            scene = chance_scene(seed, bodies=seed % 4)
            stock, wishes = chance_stock(chance, 3), chance_wishes(chance)[:2]
            self.found = Choices(scene, stock, wishes)
            wanted = plain_choices(scene, stock, wishes)
            self.check(*wanted)
            kinds.add((min(len(wanted[0]), 2), bool(wanted[2])))
        self.assertEqual(kinds, {(0, True), (1, True), (1, False), (2, True), (2, False)})


class LimitsTest(unittest.TestCase):
    def stock(self, *many):
        return [(method, ((0, None), (1, "native"), (2, "blocked"), (3, None))[:number])
                for method, number in zip(METHODS, many)]

    def test_too_many_choices(self):
        self.assertEqual(len(Choices(one(), self.stock(4, 4, 4, 4), [])), 1)
        self.assertEqual(len(Choices(one(), self.stock(4, 2, 2, 4, 2, 2), [("refuses", "size")])), 1)
        for many in ((4, 4, 4, 4, 2), (4, 3, 3, 3, 3), (4, 4, 4, 4, 4, 4), (2, 3, 4, 4, 3)):
            with self.assertRaises(TooMany) as caught:
                Choices(one(), self.stock(*many), [])
            self.assertEqual(caught.exception.limit, 256)

    def test_256_choices_that_are_all_tried(self):
        found = Choices(one(), self.stock(4, 4, 4, 4), [("answers", "like"), ("answers", "call")])
        self.assertEqual((len(found), found.cost, len(found.floor())), (0, None, 256))

    def test_too_many_rows_of_a_choice(self):
        table = crowded_scene(0).table()
        table.set_book(book_of({"like": ("own",)}))
        scene = crowded_scene(0).over(table)
        for costs, fits in (((1, 0), True), ((0, 0), False), ((0, 1), False), ((1000, 999), True)):
            stock = [("like", ((costs[0], None), (costs[1], "native")))]
            if fits:
                found = Choices(scene, stock, [("answers", "like")])
                self.assertEqual((found.listed(), found.floor()), ([(1,)], []))
            else:
                with self.assertRaises(TooMany) as caught:
                    Choices(scene, stock, [("answers", "like")])
                self.assertEqual(caught.exception.limit, 400)
        with self.assertRaises(TooMany):
            machine_of(chosen(scene, [("like", ((1, None),))], (0,)), "like")

    def test_a_dearer_choice_if_there_is_none(self):
        """If no choice is good, all are looked at."""
        stock = [("like", ((9, None), (1, "native")))]
        with self.assertRaises(TooMany):
            Choices(crowded_scene(0), stock, [("answers", "like"), ("refuses", "truth")])
        found = Choices(crowded_scene(0), stock, [("refuses", "truth"), ("answers", "like")])
        self.assertEqual(found.floor(), [((0,), 0, ["yes"]), ((1,), 0, ["yes"])])

    def test_disagreements_of_too_many_rows_are_evidence(self):
        found = Choices(crowded_scene(0), [("walk", ((9, None), (1, "native")))], [("agrees", "unlike")])
        self.assertEqual(found.floor(), [((0,), 0, None), ((1,), 0, None)])

    def test_order_of_errors(self):
        many = self.stock(4, 4, 4, 4, 2)
        for value in NO_NAMES + (chain(2).table(),):
            with self.assertRaises(NoScene) as caught:
                Choices(value, None, None)
            self.assertIs(caught.exception.value, value)
        for stock, index in ((None, None), ([], None), ([*many, many[0]], 5), (many + [None], 5)):
            with self.assertRaises(NoStock) as caught:
                Choices(one(), stock, None)
            self.assertEqual(caught.exception.index, index)
        wish = ("answers", "size")
        for wishes, index in ((None, None), ((wish,), None), ([wish] * 7, None), ([wish, ("agrees", "size")], 1)):
            with self.assertRaises(NoWish) as caught:
                Choices(one(), many, wishes)
            self.assertEqual(caught.exception.index, index)
        with self.assertRaises(TooMany) as caught:
            Choices(crowded_scene(0), many, [("answers", "like")])
        self.assertEqual(caught.exception.limit, 256)
