import unittest

from answersby.agreements import AGREEMENTS, disagreement, pair_of
from answersby.bodies import Body
from answersby.books import Book
from answersby.errors import NoAgreement, NoScene, OutOfStep, TooMany
from answersby.joint import clash
from answersby.machines import Machine, machine_of
from answersby.scenes import Scene
from oracle import chance_scene, crowded_scene
from samples import NO_NAMES
from scenery import book_of, many_kept, one, three
from steps import plain_clash

TRUTH, LENGTH = (0, "truth", "left", None), (0, "length", "left", None)
WALK, STEP = (0, "walk", "left", None), (0, "step", "left", "walk")
FIRST = (0, "item", "left", "first")


def crowded():
    """A scene whose like and unlike have more than 400 rows, and whose truth has few."""
    return crowded_scene(0)


class PairTest(unittest.TestCase):
    def test_in_their_order(self):
        self.assertEqual(AGREEMENTS, ("truth", "length", "unlike", "behind", "member"))

    def wanted(self, scene, name):
        without = scene.table()
        book = without.book()
        book["member"] = tuple(way for way in book["member"] if way != "has")
        without.set_book(book)
        return {
            "truth": lambda: (machine_of(scene, "truth"), machine_of(scene, "size"), "nonzero"),
            "length": lambda: (machine_of(scene, "size"), machine_of(scene, "each"), "counts"),
            "unlike": lambda: (machine_of(scene, "unlike"), machine_of(scene, "like"), "opposite"),
            "behind": lambda: (machine_of(scene, "behind"), machine_of(scene, "before", exchanged=True), "same"),
            "member": lambda: (machine_of(scene, "member"), machine_of(scene.over(without), "member"), "same"),
        }[name]()

    def test_pairs_by_chance(self):
        for seed in range(60):
            scene = chance_scene(seed, bodies=seed % 5, rooted=seed % 2 == 0)
            for name in AGREEMENTS:
                found = pair_of(scene, name)
                self.assertEqual(found, self.wanted(scene, name))
                self.assertEqual([type(part) for part in found], [Machine, Machine, str])

    def test_behind_beside_before_exchanged(self):
        scene = three({(0, "behind"): "native", (1, "before"): "native"})
        first, second, _ = pair_of(scene, "behind")
        self.assertEqual(first.listed()[0][1], (0, "behind", "left", 1))
        self.assertEqual(second.listed()[0][1], (1, "before", "right", 0))

    def test_member_without_has(self):
        scene = three({(0, "has"): "native", (0, "walk"): "native"})
        book, table = scene.table().book(), scene.table()
        first, second, _ = pair_of(scene, "member")
        self.assertEqual(first.listed()[0][1], (0, "has", "left", 1))
        self.assertEqual(second.listed()[0][1], WALK)
        self.assertEqual((scene.table(), scene.table().book()), (table, book))
        self.assertEqual(scene.ways("member"), ("has", "walk", "item"))
        for ways in (("item", "has", "walk"), ("item", "walk"), ("has",), ()):
            over = three({(0, "has"): "native", (0, "walk"): "native"}, book_of({"member": ways}))
            self.assertEqual(pair_of(over, "member"), self.wanted(over, "member"))

    def test_a_body_asks_member_in_this_book_too(self):
        """The whole book is without has, and so is the member that a body asks."""
        like = Body("like", ("ask", "member", "other", "self"))
        scene = three({(0, "walk"): "native", (2, "like"): like, (1, "has"): "native"})
        first, second, _ = pair_of(scene, "member")
        self.assertEqual(first.play(["walker", "other"])[1], (1, "has", "right", 2))
        self.assertEqual(second.play(["walker", "other"])[0], ("refused", "member"))

    def test_no_scene_and_no_agreement(self):
        for function in (pair_of, disagreement):
            for value in NO_NAMES + (one().table(), Scene):
                with self.assertRaises(NoScene) as caught:
                    function(value, "sizes")
                self.assertIs(caught.exception.value, value)
            for value in NO_NAMES + ("size", "like", "Truth", "before", ("truth",)):
                with self.assertRaises(NoAgreement) as caught:
                    function(crowded(), value)
                self.assertIs(caught.exception.value, value)

    def test_too_many_rows(self):
        for function in (pair_of, disagreement):
            with self.assertRaises(TooMany) as caught:
                function(crowded(), "unlike")
            self.assertEqual(caught.exception.limit, 400)

    def test_by_name(self):
        scene = one({"length": "native"})
        self.assertEqual(pair_of(name="truth", scene=scene), pair_of(scene, "truth"))
        self.assertEqual(disagreement(name="length", scene=scene), disagreement(scene, "length"))


class DisagreementTest(unittest.TestCase):
    def check(self, name, entries, wanted, book=None):
        self.assertEqual(disagreement(three(entries, book), name), wanted)

    def test_truth(self):
        self.check("truth", {(0, "length"): "native"}, None)
        both = {(0, "truth"): "native", (0, "length"): "native"}
        self.check("truth", both, [(TRUTH, None, "yes"), (LENGTH, None, 0)])
        self.check("truth", {(0, "truth"): "native"}, [(TRUTH, None, "yes")])
        self.check("truth", {}, [])
        self.check("truth", {}, None, book_of(ends_true=False))

    def test_length(self):
        self.check("length", {(0, "length"): "native"}, [(LENGTH, None, 0)])
        self.check("length", {(0, "length"): "native", (0, "walk"): "native"},
                   [(LENGTH, None, 0), (WALK, None, "wrong")])
        self.check("length", {(0, "length"): "native", (0, "item"): "native"},
                   [(LENGTH, None, 0), (FIRST, (FIRST, 0), "raise")])
        self.check("length", {(0, "walk"): "native"}, [(WALK, None, "walker"), (STEP, (WALK, 0), "out")])
        self.check("length", {}, None)
        none = Body("length", ("count", 0))
        self.check("length", {(0, "length"): none, (0, "walk"): "native"}, [(WALK, None, "wrong")])

    def test_unlike(self):
        like, unlike = (0, "like", "left", 1), (0, "unlike", "left", 1)
        self.check("unlike", {(0, "like"): "native"}, None)
        self.check("unlike", {(0, "like"): "native", (1, "like"): "native"}, None)
        self.check("unlike", {(0, "like"): "native", (0, "unlike"): "native"},
                   [(unlike, None, "yes"), (like, None, "yes")])
        self.check("unlike", {(0, "unlike"): "native"}, [(unlike, None, "no")])
        turned = Body("unlike", ("not", ("ask", "like", "self", "other")))
        self.check("unlike", {(0, "like"): "native", (0, "unlike"): turned}, None)
        self.check("unlike", {}, None)
        self.check("unlike", {}, None, book_of(ends_same=False))

    def test_behind(self):
        behind, before = (0, "behind", "left", 1), (1, "before", "right", 0)
        self.check("behind", {(1, "before"): "native"}, None)
        self.check("behind", {(0, "behind"): "native"}, None)
        self.check("behind", {(0, "behind"): "native", (1, "before"): "native"},
                   [(behind, None, "yes"), (before, None, "no")])
        self.check("behind", {(1, "before"): "native"}, [(before, None, "yes")], book_of({"behind": ("own",)}))

    def test_member(self):
        has = (0, "has", "left", 1)
        for entries in ((), [(0, "walk")], [(0, "item")], [(0, "walk"), (2, "like")], [(0, "item"), (2, "like"), (1, "like")]):
            self.check("member", {pair: "native" for pair in entries}, None)
        self.check("member", {(0, "has"): "native"}, [(has, None, "yes")])
        self.check("member", {(0, "has"): "native", (0, "walk"): "native"}, [(has, None, "yes"), (WALK, None, "wrong")])
        self.check("member", {(0, "has"): "blocked"}, None)

    def test_out_of_step(self):
        body = Body("has", ("ask", "member", "other", "self"))
        for method, asked in (("walk", (1, "step", "right", "walk")), ("item", (1, "item", "right", "first"))):
            scene = three({(0, "has"): body, (0, "walk"): "native", (1, method): "native"})
            with self.assertRaises(OutOfStep) as caught:
                disagreement(scene, "member")
            self.assertEqual(caught.exception.asked, asked)

    def test_too_many_states(self):
        """The machines are small, but so many outcomes are kept that the states are many."""
        scene = many_kept()
        self.assertLess(len(machine_of(scene, "like")), 40)
        with self.assertRaises(TooMany) as caught:
            disagreement(scene, "unlike")
        self.assertEqual(caught.exception.limit, 4000)

    def test_as_clash(self):
        """Also beside the plain search, on tables made by chance."""
        kinds = set()
        for seed in range(80):
            scene = chance_scene(seed, bodies=seed % 5, rooted=seed % 3 == 0)
            for name in AGREEMENTS:
                pair = pair_of(scene, name)
                wanted = plain_clash(*pair)
                if isinstance(wanted, tuple):
                    with self.assertRaises((OutOfStep, TooMany)):
                        disagreement(scene, name)
                else:
                    self.assertEqual(disagreement(scene, name), wanted)
                    self.assertEqual(clash(*pair), wanted)
                kinds.add(wanted[0] if isinstance(wanted, tuple) else wanted is None)
        self.assertLessEqual({True, False}, kinds)

    def test_the_scene_stays(self):
        scene = Scene(one({"walk": "native", "has": "native"}, Book()).table(), "left")
        table = scene.table()
        for name in AGREEMENTS:
            disagreement(scene, name)
        self.assertEqual(scene.table(), table)
