import random
import unittest

from answersby.agreements import AGREEMENTS, disagreement
from answersby.bodies import Body
from answersby.errors import NoChoice, NoScene, NoStock, NoWish, OutOfStep, TooMany
from answersby.machines import machine_of
from answersby.names import METHODS, OPERATIONS, outcomes_of
from answersby.scenes import Scene
from answersby.stocks import chosen, failing
from oracle import chance_entry, chance_scene, crowded_scene
from samples import NO_NAMES, STRANGE, EqualToAll, RefusesAll
from scenery import book_of, chain, many_kept, one, three

LIKE = Body("like", ("not", ("ask", "unlike", "self", "other")))
UNLIKE = Body("unlike", ("not", ("ask", "like", "self", "other")))
STOCK = [("like", ((0, None), (5, "native"), (2, LIKE))), ("hash", ((1, "native"), (0, "blocked")))]
UNANSWERED = ("refused", "barred", "loop", "deep")


def free(method):
    """A stock that leaves this method without an entry."""
    return [(method, ((0, None),))]


def scripts(machine, good):
    """The evidence by a plain search: the first script of all, by length and order, whose end is not good."""
    waiting = [[]]
    met = set()
    for script in waiting:
        end, call, at = machine.play(script)
        if call is None and not good(end):
            return script
        if call is not None and at not in met:
            met.add(at)
            waiting.extend([[*script, outcome] for outcome in outcomes_of(call[1])])
    return None


def plain_failing(scene, wishes):
    for index, (word, wished) in enumerate(wishes):
        if word == "agrees":
            try:
                evidence = disagreement(scene, wished)
            except (OutOfStep, TooMany):
                return index, None
        elif word == "answers":
            evidence = scripts(machine_of(scene, wished), lambda end: end[0] not in UNANSWERED)
        else:
            evidence = scripts(machine_of(scene, wished), lambda end: end[0] in UNANSWERED[:2])
        if evidence is not None:
            return index, evidence
    return None


def chance_stock(chance, most=6):
    methods = chance.sample(METHODS, chance.randint(1, most))
    stock = []
    for method in methods:
        options = [(chance.choice((0, 1, 2, 5)), chance_entry(chance, method, ("like", "truth")))]
        options += [(chance.choice((0, 1, 3)), None)] * chance.randint(0, 1)
        options += [(chance.choice((0, 1, 1000)), "blocked")] * chance.randint(0, 1)
        chance.shuffle(options)
        stock.append((method, tuple(options)))
    return stock


def chance_wishes(chance):
    words = {"answers": OPERATIONS, "refuses": OPERATIONS, "agrees": AGREEMENTS}
    wishes = []
    for _ in range(chance.randint(0, 4)):
        word = chance.choice(list(words))
        wishes.append((word, chance.choice(words[word])))
    return wishes


class ChosenTest(unittest.TestCase):
    def test_the_chosen_entries(self):
        scene = three({(0, "like"): "blocked", (0, "truth"): "native", (1, "like"): "native"})
        table = scene.table()
        for choice, like, hashed in (((0, 0), None, "native"), ((1, 1), "native", "blocked"), ((2, 0), LIKE, "native")):
            found = chosen(scene, STOCK, choice)
            self.assertEqual(found.classes(), scene.classes())
            wanted = scene.table()
            wanted["left", "like"] = like
            wanted["left", "hash"] = hashed
            self.assertEqual(found.table(), wanted)
            self.assertEqual(found.table()["left", "truth"], "native")
        self.assertEqual(scene.table(), table)

    def test_the_class_of_operand_0(self):
        table = chain(3).table()
        scene = Scene(table, "b", "a", "c")
        found = chosen(scene, STOCK, (1, 0)).table()
        for name, wanted in (("a", []), ("b", [("like", "native"), ("hash", "native")]), ("c", [])):
            self.assertEqual(found.entries(name), wanted)

    def test_the_stock_stays(self):
        stock, wishes = list(STOCK), [("answers", "like")]
        chosen(one(), stock, (2, 1))
        failing(one(), stock, wishes, (2, 1))
        self.assertEqual((stock, wishes), (STOCK, [("answers", "like")]))

    def test_by_name(self):
        self.assertEqual(chosen(choice=(1, 0), stock=STOCK, scene=one()).table(), chosen(one(), STOCK, (1, 0)).table())
        self.assertEqual(failing(choice=(1, 0), wishes=[("refuses", "like")], stock=STOCK, scene=one()), (0, ["yes"]))


class ErrorsTest(unittest.TestCase):
    def raises(self, error, field, value, function, *values):
        with self.assertRaises(error) as caught:
            function(*values)
        self.assertIs(getattr(caught.exception, field), value)

    def both(self, error, field, value, scene, stock, choice, wishes=(None,)):
        self.raises(error, field, value, chosen, scene, stock, choice)
        self.raises(error, field, value, failing, scene, stock, wishes, choice)

    def test_no_scene(self):
        for value in NO_NAMES + (one().table(), Scene):
            self.both(NoScene, "value", value, value, None, None)

    def test_no_stock_at_all(self):
        row = ("like", ((0, None),))
        seven = [(method, ((0, "native"),)) for method in METHODS[:7]]
        for value in NO_NAMES + ((row,), {"like": ((0, None),)}, seven, [], "like", list(METHODS)):
            if not isinstance(value, list) or len(value) not in range(1, 7):
                self.both(NoStock, "index", None, one(), value, None)

    def stocks(self, wrong):
        """The item is wrong alone, and behind two that are right."""
        self.both(NoStock, "index", 0, one(), [wrong], None)
        self.both(NoStock, "index", 0, one(), [wrong, None, wrong], None)
        self.both(NoStock, "index", 2, one(), [*STOCK, wrong], None)
        self.both(NoStock, "index", 2, one(), [*STOCK, wrong, None], None)

    def test_no_tuple(self):
        for value in NO_NAMES + ([*free("walk")[0]], "ab", ("walk",), ("walk", ((0, None),), 0)):
            self.stocks(value)

    def test_no_method(self):
        for value in NO_NAMES + ("size", "member", "Like", ("walk",)):
            self.stocks((value, ((0, None),)))

    def test_a_method_twice(self):
        self.both(NoStock, "index", 1, one(), [STOCK[0], STOCK[0]], None)
        self.both(NoStock, "index", 2, one(), [*STOCK, ("like", ((0, None),)), None], None)

    def test_no_options(self):
        option = (0, None)
        for value in NO_NAMES + ([option], (option,) * 5, (), "ab", {option: 0}):
            self.stocks(("walk", value))
        chosen(one(), [("walk", (option,) * 4)], (3,))

    def test_no_option(self):
        for value in NO_NAMES + ([0, None], (0,), (0, None, None), "ab"):
            self.stocks(("walk", (value,)))
            self.stocks(("walk", ((0, None), (1, "native"), value)))

    def test_no_cost(self):
        for value in STRANGE + (-1, 1001, True, False, 10 ** 30, "0"):
            self.stocks(("walk", ((value, "native"),)))
        chosen(one(), [("walk", ((0, "native"), (1000, None)))], (1,))

    def test_no_entry(self):
        for value in STRANGE + (1, True, "Native", "barred", LIKE, ("native",)):
            if value is not None:
                self.stocks(("unlike", ((0, value),)))
        chosen(one(), [("unlike", ((0, UNLIKE),))], (0,))

    def test_no_wishes(self):
        wish = ("answers", "like")
        for value in NO_NAMES + ((wish,), {wish: 0}, [wish] * 7, "answers"):
            if not isinstance(value, list) or len(value) > 6:
                self.raises(NoWish, "index", None, failing, one(), STOCK, value, None)
        self.assertIsNone(failing(one({"like": "native"}), STOCK, [wish] * 6, (1, 0)))

    def test_no_wish(self):
        wrong = NO_NAMES + (
            ["answers", "like"], ("answers",), ("answers", "like", "like"), ("answer", "like"), ("agrees", "like"),
            ("agrees", "size"), ("answers", "length"), ("refuses", "item"), ("answers", None), (None, "like"),
            (EqualToAll(), "like"), ("answers", EqualToAll()), ("agrees", RefusesAll()), (True, "truth"), ("ab"),
            ("Agrees", "truth"), (("answers", "like"),),
        )
        for value in wrong:
            for many in (0, 1, 5):
                wishes = [("answers", "like")] * many + [value]
                self.raises(NoWish, "index", many, failing, one(), STOCK, wishes, None)
            self.raises(NoWish, "index", 1, failing, one(), STOCK, [("agrees", "truth"), value, None], None)
        for word, names in (("answers", OPERATIONS), ("refuses", OPERATIONS), ("agrees", AGREEMENTS)):
            for name in names:
                failing(one(), STOCK, [(word, name)], (0, 0))

    def test_no_choice(self):
        wrong = NO_NAMES + (
            [0, 0], (0,), (0, 0, 0), (3, 0), (0, 2), (-1, 0), (0, -1), (True, 0), (0, False), (0.0, 0), ("0", 0),
            (None, 0), (0, None), ((0, 0), 0), (10 ** 30, 0), (EqualToAll(), 0), (0, RefusesAll()), "00",
        )
        for value in wrong:
            self.both(NoChoice, "value", value, one(), STOCK, value, [])
        for choice in ((0, 0), (2, 1)):
            chosen(one(), STOCK, choice)

    def test_too_many(self):
        for wish in (("answers", "unlike"), ("refuses", "member")):
            with self.assertRaises(TooMany) as caught:
                failing(crowded_scene(0), [("walk", ((0, None),))], [wish], (0,))
            self.assertEqual(caught.exception.limit, 400)
        # The wish ahead does not hold, so the other one is not looked at.
        wishes = [("refuses", "truth"), ("answers", "unlike")]
        self.assertEqual(failing(crowded_scene(0), [("walk", ((0, None),))], wishes, (0,)), (0, ["yes"]))


class FailingTest(unittest.TestCase):
    def check(self, wanted, wishes, entries, book=None):
        scene = three(entries, book)
        self.assertEqual(failing(scene, [("call", ((0, None),))], wishes, (0,)), wanted)

    def test_no_wishes(self):
        self.check(None, [], {})

    def test_answers(self):
        self.check(None, [("answers", "truth")], {})
        self.check((0, []), [("answers", "size")], {})
        self.check((0, []), [("answers", "hash")], {(0, "hash"): "blocked"})
        self.check((0, []), [("answers", "hash")], {(0, "like"): "native"})
        self.check(None, [("answers", "hash")], {(0, "like"): "native", (0, "hash"): "native"})
        self.check((0, []), [("answers", "like")], {(0, "like"): LIKE})
        self.check(None, [("answers", "like")], {(0, "like"): "native"}, book_of(ends_same=True))
        self.check((0, ["decline"]), [("answers", "like")], {(0, "like"): "native"}, book_of(ends_same=False))
        self.check(None, [("answers", "size")], {(0, "length"): Body("length", ("raise",))})
        self.check(None, [("answers", "each")], {(0, "walk"): "native"})

    def test_a_deep_run(self):
        entries = {(0, "walk"): "native", (1, "walk"): "native", (2, "like"): Body("like", ("ask", "member", "other", "self"))}
        self.check((0, ["walker", "other", "walker"]), [("answers", "member")], entries)

    def test_refuses(self):
        self.check(None, [("refuses", "size")], {})
        self.check((0, []), [("refuses", "truth")], {})
        self.check((0, [0]), [("refuses", "size")], {(0, "length"): "native"})
        self.check(None, [("refuses", "hash")], {(0, "like"): "native"})
        self.check((0, []), [("refuses", "like")], {(0, "like"): LIKE})
        body = Body("like", ("if", ("ask", "truth", "self"), ("ask", "size", "self"), ("ask", "hash", "self")))
        entries = {(0, "like"): body, (0, "truth"): "native"}
        self.check((0, ["wrong"]), [("refuses", "like")], entries)
        self.check((0, ["wrong"]), [("refuses", "each")], {(0, "walk"): "native"})
        self.check((0, ["out"]), [("refuses", "each")], {(0, "item"): "native"})

    def test_agrees(self):
        self.check(None, [("agrees", "truth")], {(0, "length"): "native"})
        self.check((0, [((0, "length", "left", None), None, 0)]), [("agrees", "length")], {(0, "length"): "native"})
        self.check((0, []), [("agrees", "truth")], {})

    def test_evidence_that_is_none(self):
        has = Body("has", ("ask", "member", "other", "self"))
        entries = {(0, "has"): has, (0, "walk"): "native", (1, "walk"): "native"}
        self.check((1, None), [("answers", "member"), ("agrees", "member")], entries)
        stock = [("walk", ((0, None),))]
        self.assertEqual(failing(many_kept(), stock, [("agrees", "unlike")], (0,)), (0, None))
        self.assertEqual(failing(crowded_scene(0), stock, [("agrees", "truth"), ("agrees", "unlike")], (0,)),
                         plain_failing(crowded_scene(0), [("agrees", "truth"), ("agrees", "unlike")]))
        self.assertEqual(failing(crowded_scene(0), stock, [("agrees", "unlike")], (0,)), (0, None))

    def test_the_first_wish_that_does_not_hold(self):
        entries = {(0, "length"): "native", (0, "walk"): "native"}
        wishes = [("answers", "size"), ("agrees", "truth"), ("answers", "call"), ("refuses", "each")]
        self.check((2, []), wishes, entries)
        self.check((2, ["wrong"]), [wishes[0], wishes[1], wishes[3], wishes[2]], entries)

    def test_the_first_of_several_shortest(self):
        body = Body("like", ("if", ("ask", "truth", "self"), ("yes",), ("ask", "hash", "self")))
        entries = {(0, "like"): body, (0, "length"): "native"}
        self.check((0, [0]), [("answers", "like")], entries)
        self.check((0, [1]), [("refuses", "like")], entries)
        body = Body("like", ("if", ("ask", "truth", "self"), ("ask", "truth", "other"), ("ask", "hash", "self")))
        entries = {(0, "like"): body, (0, "truth"): "native", (1, "truth"): "native"}
        self.check((0, ["no"]), [("answers", "like")], entries)
        self.check((0, ["wrong"]), [("refuses", "like")], entries)

    def test_a_new_list(self):
        wishes = [("refuses", "size")]
        stock = [("length", ((0, "native"),))]
        failing(one(), stock, wishes, (0,))[1].clear()
        self.assertEqual(failing(one(), stock, wishes, (0,)), (0, [0]))

    def test_by_chance(self):
        failed = 0
        for seed in range(150):
            chance = random.Random(seed)
            scene = chance_scene(seed, bodies=seed % 4)
            stock, wishes = chance_stock(chance), chance_wishes(chance)
            choice = tuple(chance.randrange(len(options)) for _, options in stock)
            wanted = plain_failing(chosen(scene, stock, choice), wishes)
            self.assertEqual(failing(scene, stock, wishes, choice), wanted)
            failed += wanted is not None
        self.assertGreater(failed, 50)
