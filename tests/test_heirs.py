import random
import unittest

from answersby.alike import parting
from answersby.bodies import Body
from answersby.books import Book
from answersby.errors import NoClass, NoEntry, NoName, NoOperand, NoOrder, NoScene, NotNamed, TooMany, Used
from answersby.heirs import free_methods, heir_scene, spared, witness, witnesses
from answersby.machines import machine_of, names_of
from answersby.names import METHODS, OPERATIONS
from answersby.scenes import Scene
from answersby.tables import Table
from oracle import chance_entry, chance_scene, crowded_scene
from samples import NO_NAMES, STRANGE, EqualToAll, RefusesAll
from scenery import CLASSES, book_of, chain, one, three

LIKE = Body("like", ("further",))


def wide():
    """A scene of left, right and item, with the classes x and y beside them."""
    table = three({(0, "like"): "native"}).table()
    table.add("x")
    table.add("y", "x")
    return Scene(table, *CLASSES)


def full():
    """A scene of a table with 8 classes."""
    table = Table(Book())
    for name in "abcdefgh":
        table.add(name)
    return Scene(table, "a", "b", "c")


class HeirSceneTest(unittest.TestCase):
    def test_each_operand(self):
        for operand in (0, 1, 2):
            scene = wide()
            heir = heir_scene(scene, operand, "heir", {})
            classes = list(CLASSES)
            classes[operand] = "heir"
            self.assertEqual(heir.classes(), tuple(classes))
            table = heir.table()
            self.assertEqual(table.listed(), [*CLASSES, "x", "y", "heir"])
            self.assertEqual(table.bases("heir"), (CLASSES[operand],))
            self.assertEqual(table.order("heir"), ["heir", CLASSES[operand]])
            self.assertEqual(table.entries("heir"), [])
            self.assertEqual(table.entries("left"), [("like", "native")])

    def test_only_this_operand(self):
        """Also if all three operands are of one class."""
        for operand in (0, 1, 2):
            names = ["left"] * 3
            names[operand] = "heir"
            self.assertEqual(heir_scene(one(), operand, "heir", {}).classes(), tuple(names))

    def test_front_and_back(self):
        heir = heir_scene(wide(), 1, "heir", {}, front=("left", "y"), back=("x", "item"))
        self.assertEqual(heir.table().bases("heir"), ("left", "y", "right", "x", "item"))
        self.assertEqual(heir.table().order("heir"), ["heir", "left", "y", "right", "x", "item"])
        heir = heir_scene(wide(), 1, "heir", {}, back=("x",))
        self.assertEqual(heir.table().bases("heir"), ("right", "x"))
        heir = heir_scene(wide(), 1, "heir", {}, front=("x",))
        self.assertEqual(heir.table().bases("heir"), ("x", "right"))

    def test_entries(self):
        entries = {"has": "native", "like": LIKE, "walk": "blocked", "back": None}
        heir = heir_scene(wide(), 2, "heir", entries)
        self.assertEqual(heir.table().entries("heir"), [("walk", "blocked"), ("has", "native"), ("like", LIKE)])
        self.assertEqual(list(entries.items()),
                         [("has", "native"), ("like", LIKE), ("walk", "blocked"), ("back", None)])
        entries["has"] = "blocked"
        self.assertEqual(heir.table()["heir", "has"], "native")

    def test_the_first_scene_stays(self):
        scene = wide()
        table, classes = scene.table(), scene.classes()
        heir_scene(scene, 0, "heir", {"like": "native"}, front=("y",))
        self.assertEqual((scene.table(), scene.classes()), (table, classes))
        later = heir_scene(scene, 0, "heir", {}).table()
        table.add("heir", "left")
        self.assertEqual(later, table)

    def test_an_heir_of_an_heir(self):
        heir = heir_scene(heir_scene(one({"truth": "native"}), 0, "b", {}), 0, "c", {"length": "native"})
        self.assertEqual(heir.table().order("c"), ["c", "b", "left"])
        self.assertEqual(heir.lookup(0, "truth"), ("left", "native"))

    def test_by_position_and_by_name(self):
        heir = heir_scene(back=("x",), entries={}, name="heir", front=("item",), operand=1, scene=wide())
        self.assertEqual(heir.table().bases("heir"), ("item", "right", "x"))
        with self.assertRaises(TypeError):
            heir_scene(wide(), 1, "heir", {}, ("x",))

    def test_no_scene_and_no_operand(self):
        for value in NO_NAMES + (wide().table(), Scene):
            with self.assertRaises(NoScene) as caught:
                heir_scene(value, None, None, {None: None}, front=(None,))
            self.assertIs(caught.exception.value, value)
        for value in STRANGE + (True, False, 3, -1, 10 ** 30, "0", EqualToAll()):
            with self.assertRaises(NoOperand) as caught:
                heir_scene(wide(), value, None, {None: None}, front=(None,))
            self.assertIs(caught.exception.value, value)

    def raises(self, error, field, value, scene, name, entries=(), **bases):
        with self.assertRaises(error) as caught:
            heir_scene(scene, 0, name, dict(entries), **bases)
        self.assertEqual(getattr(caught.exception, field), value)

    def test_the_errors_of_add(self):
        wrong = {"x": None}
        for value in ("", "A", "abcdefg", 3, None):
            self.raises(NoName, "value", value, wide(), value, wrong, front=(None,))
        self.raises(Used, "name", "left", wide(), "left", wrong, front=(None,))
        self.raises(NoClass, "name", "z", wide(), "heir", wrong, front=("z", "u"), back=("v",))
        self.raises(NoClass, "name", "heir", wide(), "heir", wrong, back=("heir",))
        self.raises(NoClass, "name", 3, wide(), "heir", wrong, front=("x",), back=(3, "left"))
        self.raises(NoOrder, "name", "heir", wide(), "heir", wrong, front=("x",), back=("y",))
        self.raises(NoOrder, "name", "heir", wide(), "heir", wrong, back=("left",))
        self.raises(NoOrder, "name", "heir", full(), "heir", wrong, back=("a",))
        self.raises(TooMany, "limit", 8, full(), "heir", wrong)
        self.raises(Used, "name", "h", full(), "h", wrong)

    def test_the_errors_of_the_entries(self):
        for value in ("size", "likes", 3, None, "member"):
            self.raises(NoName, "value", value, wide(), "heir", {"like": "native", value: "x", "has": "x"})
        for value in ("x", LIKE, 3, True, ("yes",), "barred"):
            self.raises(NoEntry, "method", "has", wide(), "heir", {"like": LIKE, "has": value, "x": None})


class SparedTest(unittest.TestCase):
    def check(self, wanted, scene, operation, later):
        self.assertIs(spared(scene, operation, later), wanted)
        if wanted:
            self.assertEqual(machine_of(scene, operation), machine_of(later, operation))

    def test_the_same_scene(self):
        for operation in OPERATIONS:
            self.check(True, wide(), operation, wide())

    def test_another_book(self):
        scene = three({(0, "length"): "native"})
        for ways, flags in (({"size": ()}, {}), ({"grow": ("plus",)}, {}), ({}, {"ends_true": False})):
            table = scene.table()
            table.set_book(book_of(ways, **flags))
            self.check(False, scene, "size", scene.over(table))

    def base_scene(self):
        """The scene of d over b and c over a, where truth hangs on operand 0 alone."""
        table = Table(Book())
        for name, *bases in (("a",), ("b", "a"), ("c", "a"), ("d", "b", "c"), ("e",), ("f",)):
            table.add(name, *bases)
        table["a", "truth"] = "native"
        table["b", "like"] = LIKE
        return Scene(table, "d", "e", "e")

    def later(self, change, name="d"):
        """A later scene of the class of this name, over a table that was changed."""
        scene = self.base_scene()
        table = scene.table()
        change(table)
        return scene, Scene(table, name, "e", "e")

    def test_a_class_is_missing(self):
        scene, later = self.later(lambda table: table.set_bases("d", "b"))
        self.check(False, scene, "truth", later)
        scene, later = self.later(lambda table: None, "b")
        self.check(False, scene, "truth", later)
        self.check(False, scene, "truth", Scene(three().table(), *CLASSES))

    def test_another_order(self):
        scene, later = self.later(lambda table: table.set_bases("d", "c", "b"))
        self.check(False, scene, "truth", later)

    def test_other_classes_between(self):
        scene, later = self.later(lambda table: table.set_bases("d", "b", "e", "c", "f"))
        self.check(True, scene, "truth", later)

        def change(table):
            table.set_bases("a", "f")
            table.set_bases("c", "e", "a")
            table["f", "length"] = "native"
            table["e", "has"] = "blocked"
            table.add("g", "d")

        scene, later = self.later(change, "g")
        self.assertEqual(later.table().order("g"), ["g", "d", "b", "c", "e", "a", "f"])
        self.check(True, scene, "truth", later)

    def test_other_entries(self):
        for name, method, entry in (
            ("a", "truth", None), ("a", "truth", "blocked"), ("a", "truth", Body("truth", ("yes",))), ("d", "truth", "native"),
            ("b", "like", "native"), ("b", "like", Body("like", ("yes",))), ("c", "plus", "blocked"),
        ):
            def change(table):
                table[name, method] = entry
            scene, later = self.later(change)
            self.check(False, scene, "truth", later)
        scene, later = self.later(lambda table: table.__setitem__(("b", "like"), Body("like", ("further",))))
        self.check(True, scene, "truth", later)

    def test_another_class_with_an_entry(self):
        for method in METHODS:
            for entry in ("native", "blocked"):
                scene = self.base_scene()
                heir = heir_scene(scene, 0, "heir", {method: entry})
                self.check(method != "truth", scene, "truth", heir)
                mixed = heir_scene(scene, 0, "heir", {}, front=("f",))
                table = mixed.table()
                table["f", method] = entry
                self.check(method != "truth", scene, "truth", mixed.over(table))
        heir = heir_scene(self.base_scene(), 0, "heir", {"truth": Body("truth", ("further",))})
        self.check(False, self.base_scene(), "truth", heir)

    def test_a_class_behind_that_is_never_reached(self):
        """Also an entry behind the owner counts, if its class is another one."""
        scene = one({"truth": "native"})
        table = scene.table()
        table.add("new")
        table.add("heir", "left", "new")
        table["new", "truth"] = "native"
        self.check(False, scene, "truth", Scene(table, "heir"))

    def test_the_operands_that_occur(self):
        scene = wide()
        names = {operation: {operand for operand, _ in names_of(scene, operation)} for operation in OPERATIONS}
        self.assertEqual((names["size"], names["before"], names["member"]), ({0}, {0, 1}, {0}))
        for operation in OPERATIONS:
            for operand in (0, 1, 2):
                entries = {method: "native" for method in METHODS}
                heir = heir_scene(scene, operand, "heir", entries)
                self.check(operand not in names[operation], scene, operation, heir)
                table = scene.table()
                table[CLASSES[operand], "call"] = "blocked"
                self.check(operand not in names[operation], scene, operation, scene.over(table))

    def test_the_item_occurs(self):
        scene = three({(0, "walk"): "native"})
        self.check(False, scene, "member", heir_scene(scene, 2, "heir", {"like": "native"}))
        self.check(True, scene, "member", heir_scene(scene, 2, "heir", {"has": "native"}))
        self.check(False, scene, "member", heir_scene(scene, 1, "heir", {"like": "native"}))
        self.check(True, scene, "member", heir_scene(scene, 1, "heir", {"walk": "native", "hash": "native"}))
        self.check(False, scene, "member", heir_scene(scene, 0, "heir", {"has": "native"}))

    def test_methods_go_with_their_operand(self):
        scene = three()
        self.check(True, scene, "before", heir_scene(scene, 0, "heir", {"behind": "native"}))
        self.check(False, scene, "before", heir_scene(scene, 1, "heir", {"behind": "native"}))
        self.check(False, scene, "before", heir_scene(scene, 0, "heir", {"before": "native"}))

    def test_barred_hash(self):
        scene = one({"hash": "native"})
        self.check(False, scene, "hash", heir_scene(scene, 0, "heir", {"like": "native"}))
        self.check(True, scene, "hash", heir_scene(scene, 0, "heir", {"unlike": "native"}))
        table = scene.table()
        table.set_book(book_of(bars_hash=False))
        scene = scene.over(table)
        self.check(True, scene, "hash", heir_scene(scene, 0, "heir", {"like": "native"}))

    def test_no_names(self):
        """Nothing but the book matters if nothing is looked up."""
        book = book_of({"size": ()})
        self.check(True, three(book=book), "size", one(book=book))
        self.check(False, three(book=book), "size", one())

    def test_a_bool(self):
        self.assertIs(spared(later=wide(), operation="size", scene=wide()), True)
        self.assertIs(spared(wide(), "size", one()), False)

    def test_errors(self):
        for value in NO_NAMES + (wide().table(),):
            with self.assertRaises(NoScene) as caught:
                spared(value, None, 3)
            self.assertIs(caught.exception.value, value)
            with self.assertRaises(NoScene) as caught:
                spared(wide(), "size", value)
            self.assertIs(caught.exception.value, value)
        for value in NO_NAMES + ("length",):
            with self.assertRaises(NoName) as caught:
                spared(wide(), value, None)
            self.assertIs(caught.exception.value, value)
        scene = crowded_scene(2)
        with self.assertRaises(NoScene):
            spared(scene, "like", None)
        for later in (scene, one()):
            with self.assertRaises(TooMany) as caught:
                spared(scene, "like", later)
            self.assertEqual(caught.exception.limit, 400)


class WitnessTest(unittest.TestCase):
    def check(self, scene, operation):
        machine = machine_of(scene, operation)
        rows = witnesses(scene, operation)
        self.assertEqual([row[:2] for row in rows], names_of(scene, operation))
        for operand, method, script in rows:
            self.assertIsInstance(script, list)
            heir = heir_scene(scene, operand, "heir", {method: "native"})
            self.assertEqual(script, parting(machine, machine_of(heir, operation)))
            self.assertEqual(witness(scene, operation, operand, method), script)

    def test_by_hand(self):
        scene = three({(0, "walk"): "native"})
        self.assertEqual(witnesses(scene, "member"), [
            (0, "walk", []), (0, "has", []), (1, "like", ["walker", "other"]), (2, "like", ["walker", "other"]),
        ])
        self.assertEqual(witness(scene, "member", 1, "like"), ["walker", "other"])
        self.assertEqual(witness(scene=scene, method="has", operand=0, operation="member"), [])
        scene = three({(0, "before"): "native"})
        self.assertEqual(witnesses(operation="before", scene=scene), [(0, "before", []), (1, "behind", ["decline"])])
        self.assertEqual(witnesses(three({(0, "length"): "native"}), "turned"),
                         [(0, "length", []), (0, "item", [1]), (0, "back", [])])
        self.assertEqual(witnesses(one({"hash": "native"}), "hash"), [(0, "like", []), (0, "hash", [])])
        self.assertEqual(witnesses(three(book=book_of({"size": ()})), "size"), [])

    def test_an_entry_that_is_native_already(self):
        """The heir is another owner, so the call is another one."""
        self.assertEqual(witnesses(one({"truth": "native"}), "truth"), [(0, "truth", [])])

    def test_by_chance(self):
        for seed in range(40):
            scene = chance_scene(seed, entries=(0.4, 0.7)[seed % 2], bodies=seed % 5)
            for operation in OPERATIONS:
                self.check(scene, operation)

    def test_names_that_the_heir_might_have(self):
        for names in ("abcdefg", "bcdefgh", "a", "hgfedcb"):
            table = Table(Book())
            for name in names:
                table.add(name)
            scene = Scene(table, names[0], names[-1])
            self.assertEqual(witnesses(scene, "before"), [(0, "before", []), (1, "behind", [])])

    def test_the_scene_stays(self):
        scene = wide()
        table = scene.table()
        witnesses(scene, "unlike").clear()
        witness(scene, "unlike", 1, "like").clear()
        self.assertEqual((scene.table(), scene.classes()), (table, CLASSES))

    def test_not_named(self):
        scene = three({(0, "walk"): "native"})
        names = names_of(scene, "member")
        for operand in (0, 1, 2):
            for method in METHODS:
                if (operand, method) not in names:
                    with self.assertRaises(NotNamed) as caught:
                        witness(scene, "member", operand, method)
                    self.assertEqual(caught.exception.method, method)

    def test_errors(self):
        scene = three()
        for value in NO_NAMES + (scene.table(),):
            with self.assertRaises(NoScene) as caught:
                witness(value, None, None, None)
            self.assertIs(caught.exception.value, value)
            with self.assertRaises(NoScene) as caught:
                witnesses(value, None)
            self.assertIs(caught.exception.value, value)
        for value in NO_NAMES + ("length", "step"):
            with self.assertRaises(NoName) as caught:
                witness(scene, value, None, None)
            self.assertIs(caught.exception.value, value)
            with self.assertRaises(NoName) as caught:
                witnesses(scene, value)
            self.assertIs(caught.exception.value, value)
        for value in STRANGE + (True, False, 3, -1):
            with self.assertRaises(NoOperand) as caught:
                witness(scene, "like", value, None)
            self.assertIs(caught.exception.value, value)
        for value in NO_NAMES + ("size", "step", RefusesAll()):
            with self.assertRaises(NoName) as caught:
                witness(scene, "like", 2, value)
            self.assertIs(caught.exception.value, value)

    def test_8_classes(self):
        for make in (lambda: witness(full(), "like", 0, "like"), lambda: witnesses(full(), "like")):
            with self.assertRaises(TooMany) as caught:
                make()
            self.assertEqual(caught.exception.limit, 8)
        with self.assertRaises(NotNamed):
            witness(full(), "like", 2, "like")
        table = full().table()
        table.set_book(book_of({"size": ()}))
        self.assertEqual(witnesses(Scene(table, "a"), "size"), [])

    def test_too_many_rows(self):
        scene = crowded_scene(2)
        calls = [lambda: witness(scene, "like", 0, "like"), lambda: witness(scene, "like", 2, "walk"),
                 lambda: witnesses(scene, "like"), lambda: free_methods(scene, "like", 0)]
        for call in calls:
            with self.assertRaises(TooMany) as caught:
                call()
            self.assertEqual(caught.exception.limit, 400)


class FreeMethodsTest(unittest.TestCase):
    def test_by_hand(self):
        scene = three({(0, "walk"): "native"})
        wanted = [method for method in METHODS if method not in ("walk", "has")]
        self.assertEqual(free_methods(scene, "member", 0), wanted)
        wanted = [method for method in METHODS if method != "like"]
        self.assertEqual(free_methods(scene, "member", 1), wanted)
        self.assertEqual(free_methods(operand=2, operation="member", scene=scene), wanted)
        self.assertEqual(free_methods(scene, "size", 1), list(METHODS))
        self.assertEqual(free_methods(scene, "hash", 0), [name for name in METHODS if name not in ("like", "hash")])

    def test_free_methods_and_names(self):
        for seed in range(20):
            scene = chance_scene(seed, bodies=seed % 4)
            for operation in OPERATIONS:
                names = names_of(scene, operation)
                for operand in (0, 1, 2):
                    free = free_methods(scene, operation, operand)
                    self.assertEqual(free, [name for name in METHODS if (operand, name) not in names])

    def test_a_new_list(self):
        free_methods(three(), "size", 1).clear()
        self.assertEqual(free_methods(three(), "size", 1), list(METHODS))

    def test_errors(self):
        for value in NO_NAMES:
            with self.assertRaises(NoScene) as caught:
                free_methods(value, None, None)
            self.assertIs(caught.exception.value, value)
            with self.assertRaises(NoName) as caught:
                free_methods(three(), value, None)
            self.assertIs(caught.exception.value, value)
        for value in STRANGE + (True, False, 3, -1):
            with self.assertRaises(NoOperand) as caught:
                free_methods(three(), "size", value)
            self.assertIs(caught.exception.value, value)


class LaterClassesTest(unittest.TestCase):
    """Promise [0.2] (e): the names are all that later classes have to leave alone, and no more."""

    def chance_later(self, chance, scene, free):
        """An heir of each operand's class, with entries for some methods out of free."""
        for operand in (0, 1, 2):
            methods = chance.sample(free[operand], min(len(free[operand]), chance.randint(0, 4)))
            entries = {method: chance_entry(chance, method, ("truth", "like", "hash")) for method in methods}
            table = scene.table()
            if len(table) < 8:
                name = [word for word in "stuvwxyz" if word not in table][0]
                scene = heir_scene(scene, operand, name, entries)
        return scene

    def test_spared_classes_never_change_the_machine(self):
        met = [0, 0]
        for seed in range(60):
            chance = random.Random(seed)
            scene = chance_scene(seed, entries=(0.3, 0.6)[seed % 2], bodies=seed % 5, rooted=seed % 3 == 0)
            for operation in OPERATIONS:
                free = [free_methods(scene, operation, operand) for operand in (0, 1, 2)]
                later = self.chance_later(chance, scene, free)
                self.assertTrue(spared(scene, operation, later))
                self.assertEqual(machine_of(later, operation), machine_of(scene, operation))
                later = self.chance_later(chance, scene, [METHODS] * 3)
                alone = spared(scene, operation, later)
                met[alone] += 1
                if alone:
                    self.assertEqual(machine_of(later, operation), machine_of(scene, operation))
        self.assertGreater(min(met), 50)

    def test_an_heir_with_one_native_name_changes_it(self):
        for seed in range(60):
            scene = chance_scene(seed, entries=(0.3, 0.6)[seed % 2], bodies=seed % 5)
            for operation in OPERATIONS:
                for operand, method in names_of(scene, operation):
                    heir = heir_scene(scene, operand, "heir", {method: "native"})
                    self.assertFalse(spared(scene, operation, heir))
                    self.assertNotEqual(machine_of(heir, operation), machine_of(scene, operation))
