import random
import unittest

from answersby.alike import parting
from answersby.bodies import Body
from answersby.books import Book
from answersby.edits import Draft, changes, edited, exchanged_bases, free_exchanges, make_edits, may_change
from answersby.errors import (
    AnswerError, EditFailed, NoBook, NoClass, NoEdit, NoEntry, NoName, NoNumber, NoOrder, NoScene, NoTable, TooMany, Used,
)
from answersby.machines import looked_of, machine_of, names_of
from answersby.names import METHODS, OPERATIONS
from answersby.scenes import Scene
from answersby.tables import Table
from oracle import chance_book, chance_entry, chance_scene, chance_table, crowded_scene
from samples import NO_NAMES, EqualToAll, RefusesAll
from scenery import chain, one, three

LIKE = Body("like", ("further",))
NO_CLASSES = NO_NAMES + ("z", "A", "abcdefg")
NO_EDITS = NO_NAMES + (
    ["clear", "a", "like"], ("clear",), ("clear", "a"), ("clear", "a", "like", None), ("set", "a", "like"),
    ("set", "a", "like", None, None), ("bases", "a"), ("bases", "a", ["b"]), ("bases", "a", "b"), ("bases", "a", None),
    ("bases", "a", "b", "c"), ("book",), ("book", Book(), Book()), ("undo",), ("Set", "a", "like", None),
    (None, "a", "like"), (True, Book()), (EqualToAll(), Book()), (RefusesAll(), "a", "like"), ("class", "a"), ("add", "a"),
    (("book", Book()),), Book(),
)


def diamond():
    """A table of d over b and c over a, with e for itself."""
    table = Table(Book())
    for name, *bases in ("a", "ba", "ca", "dbc", "e"):
        table.add(name, *bases)
    table["a", "like"] = "native"
    table["b", "like"] = LIKE
    table["c", "truth"] = "native"
    return table


def orders(table):
    return [table.order(name) for name in table]


def chance_edit(chance, table):
    """An edit of each form; the table refuses some of them."""
    names = table.listed()
    name, method = chance.choice(names), chance.choice(METHODS)
    kind = chance.randrange(10)
    if kind == 0:
        return "book", chance_book(chance)
    if kind <= 3:
        return "bases", name, tuple(chance.sample(names, min(len(names), chance.choice((0, 1, 1, 2)))))
    if kind <= 5:
        return "clear", name, method
    return "set", name, method, chance.choice((None, chance_entry(chance, method, ("like", "truth", "length"))))


class DraftTest(unittest.TestCase):
    def test_each_form(self):
        table = diamond()
        with Draft(table) as draft:
            self.assertIsInstance(draft, Draft)
            self.assertIsNone(draft.make(("set", "d", "like", "blocked")))
            self.assertEqual(table["d", "like"], "blocked")
            draft.make(("clear", "c", "truth"))
            self.assertIsNone(table["c", "truth"])
            draft.make(("bases", "d", ("c", "b")))
            self.assertEqual(table.order("d"), ["d", "c", "b", "a"])
            draft.make(("book", Book.bare()))
        wanted = diamond()
        wanted["d", "like"] = "blocked"
        wanted["c", "truth"] = None
        wanted.set_bases("d", "c", "b")
        wanted.set_book(Book.bare())
        self.assertEqual((table, orders(table)), (wanted, orders(wanted)))

    def test_without_a_block(self):
        table = diamond()
        draft = Draft(table)
        draft.make(edit=("bases", "b", ()))
        self.assertEqual(table.order("b"), ["b"])
        self.assertEqual(orders(table)[3], ["d", "b", "c", "a"])
        with self.assertRaises(NoEntry):
            draft.make(("set", "a", "truth", "x"))
        draft.make(("set", "a", "like", None))
        self.assertIsNone(table["a", "like"])

    def test_it_raises_as_the_table(self):
        rows = [
            (("set", "z", "like", "native"), NoClass, "name", "z"), (("set", "a", "likes", 1), NoName, "value", "likes"),
            (("set", "a", "unlike", LIKE), NoEntry, "method", "unlike"), (("clear", "z", "x"), NoClass, "name", "z"),
            (("clear", "a", "x"), NoName, "value", "x"), (("bases", "z", ("y",)), NoClass, "name", "z"),
            (("bases", "a", ("y", "x")), NoClass, "name", "y"), (("bases", "a", ("d",)), NoOrder, "name", "a"),
            (("bases", "e", ("a", "b")), NoOrder, "name", "e"), (("bases", "c", ("b",)), NoOrder, "name", "d"),
            (("book", None), NoBook, "value", None),
        ]
        for edit, error, field, value in rows:
            table = diamond()
            with self.assertRaises(error) as caught:
                Draft(table).make(edit)
            self.assertEqual(getattr(caught.exception, field), value)
            self.assertEqual((table, orders(table)), (diamond(), orders(diamond())))

    def test_an_error_gives_the_table_back(self):
        for error in (ValueError, KeyError, NoClass, Used, EditFailed, KeyboardInterrupt):
            table = diamond()
            with self.assertRaises(error):
                with Draft(table) as draft:
                    draft.make(("bases", "d", ("c", "b", "e")))
                    draft.make(("book", Book.bare()))
                    table.add("f", "d")
                    table["f", "truth"] = "native"
                    table["a", "like"] = None
                    table.set_bases("a", "e")
                    raise error(1)
            self.assertEqual((table, orders(table)), (diamond(), orders(diamond())))
            self.assertNotIn("f", table)
            table.add("f", "e")
            self.assertEqual(table.heirs("e"), ["f"])
            self.assertEqual(table.book(), Book())

    def test_an_error_of_make_gives_the_table_back(self):
        table = diamond()
        with self.assertRaises(NoClass) as caught:
            with Draft(table) as draft:
                draft.make(("clear", "a", "like"))
                draft.make(("clear", "z", "like"))
        self.assertEqual(caught.exception.name, "z")
        self.assertEqual(table, diamond())

    def test_an_error_that_does_not_leave_the_block(self):
        table = diamond()
        with Draft(table) as draft:
            draft.make(("clear", "a", "like"))
            with self.assertRaises(NoClass):
                draft.make(("clear", "z", "like"))
        self.assertIsNone(table["a", "like"])

    def test_a_block_without_an_error_keeps_all(self):
        table = diamond()
        for name in ("f", "g"):
            with Draft(table) as draft:
                table.add(name, "e")
                draft.make(("set", name, "truth", "native"))
        self.assertEqual(table.heirs("e"), ["f", "g"])

    def test_the_beginning_of_the_block(self):
        """What was made ahead of the block stays; the same draft may have several blocks."""
        table = diamond()
        draft = Draft(table)
        draft.make(("set", "e", "walk", "native"))
        for number in (0, 1):
            with self.assertRaises(ZeroDivisionError):
                with draft:
                    draft.make(("clear", "e", "walk"))
                    1 // 0
            self.assertEqual(table.entries("e"), [("walk", "native")])
            draft.make(("set", "e", "hash", "native"))
            self.assertEqual(table.entries("e"), [("walk", "native"), ("hash", "native")])
            draft.make(("clear", "e", "hash"))
        with draft:
            draft.make(("clear", "e", "walk"))
        self.assertEqual(table.entries("e"), [])

    def test_two_drafts_of_one_table(self):
        table = diamond()
        with Draft(table) as outer:
            outer.make(("set", "e", "walk", "native"))
            with self.assertRaises(RuntimeError):
                with Draft(table) as inner:
                    inner.make(("set", "e", "back", "native"))
                    outer.make(("set", "e", "hash", "native"))
                    raise RuntimeError
            self.assertEqual(table.entries("e"), [("walk", "native")])
            with Draft(table) as inner:
                inner.make(("set", "e", "back", "native"))
            outer.make(("clear", "e", "walk"))
        self.assertEqual(table.entries("e"), [("back", "native")])
        with self.assertRaises(RuntimeError):
            with Draft(table) as outer:
                with Draft(table) as inner:
                    inner.make(("clear", "e", "back"))
                table.add("f")
                raise RuntimeError
        self.assertEqual((table.entries("e"), "f" in table), ([("back", "native")], False))

    def test_twins_and_scenes_stay(self):
        table = diamond()
        scene, twin = Scene(table, "d"), table.twin()
        with self.assertRaises(RuntimeError):
            with Draft(table) as draft:
                draft.make(("clear", "a", "like"))
                within = table.twin()
                raise RuntimeError
        draft.make(("clear", "c", "truth"))
        self.assertEqual((scene.table(), twin), (diamond(), diamond()))
        self.assertEqual((within["a", "like"], within["c", "truth"]), (None, "native"))

    def test_no_table(self):
        for value in NO_NAMES + (one(), Book(), Table):
            with self.assertRaises(NoTable) as caught:
                Draft(value)
            self.assertIs(caught.exception.value, value)
        self.assertEqual(Draft(table=diamond()).make(("book", Book())), None)


class MakeEditsTest(unittest.TestCase):
    def test_each_form(self):
        table = diamond()
        rows = [
            (("set", "d", "like", "native"), ("clear", "d", "like")),
            (("set", "d", "like", None), ("set", "d", "like", "native")),
            (("set", "b", "like", "blocked"), ("set", "b", "like", LIKE)),
            (("set", "b", "like", "blocked"), ("set", "b", "like", "blocked")),
            (("clear", "a", "like"), ("set", "a", "like", "native")),
            (("clear", "a", "like"), ("clear", "a", "like")),
            (("bases", "d", ("e", "c")), ("bases", "d", ("b", "c"))),
            (("bases", "d", ()), ("bases", "d", ("e", "c"))),
            (("bases", "d", ()), ("bases", "d", ())),
            (("book", Book.bare()), ("book", Book())),
            (("book", Book()), ("book", Book.bare())),
        ]
        for edit, back in rows:
            self.assertEqual(make_edits(table, [edit]), [back])
        table = diamond()
        self.assertEqual(make_edits(edits=[edit for edit, _ in rows], table=table), [back for _, back in rows[::-1]])

    def test_no_edits(self):
        table = diamond()
        self.assertEqual(make_edits(table, []), [])
        self.assertEqual(table, diamond())

    def test_back_and_forth(self):
        """By chance: step by step through all the tables, and forth again."""
        for seed in range(150):
            chance = random.Random(seed)
            table = chance_table(chance, chance.randint(1, 6))
            first, twin = table.twin(), table.twin()
            edits, tables = [], [table.twin()]
            for _ in range(12):
                edit = chance_edit(chance, twin)
                try:
                    make_edits(twin, [edit])
                except EditFailed:
                    continue
                edits.append(edit)
                tables.append(twin.twin())
            backs = make_edits(table, edits)
            self.assertEqual((len(backs), table, orders(table)), (len(edits), twin, orders(twin)))
            forth = make_edits(table, backs)
            self.assertEqual((table, orders(table)), (first, orders(first)))
            make_edits(table, forth)
            self.assertEqual(table, twin)
            for back, wanted in zip(backs, tables[-2::-1]):
                make_edits(table, [back])
                self.assertEqual((table, orders(table)), (wanted, orders(wanted)))

    def test_books_are_kept(self):
        table, book = diamond(), Book()
        book["size"] = ()
        backs = make_edits(table, [("book", book)])
        book["size"] = ("length",)
        self.assertEqual(table.book()["size"], ())
        table.set_book(Book.bare())
        self.assertEqual(backs, [("book", Book())])

    def test_the_list_stays(self):
        edits = [("clear", "a", "like"), ("bases", "d", ())]
        make_edits(diamond(), edits)
        self.assertEqual(edits, [("clear", "a", "like"), ("bases", "d", ())])

    def test_no_table(self):
        for value in NO_NAMES + (one(), Table):
            with self.assertRaises(NoTable) as caught:
                make_edits(value, None)
            self.assertIs(caught.exception.value, value)

    def no_edit(self, function, *values):
        """All values stand ahead of the edits; none of these edits is looked at by the table."""
        edit = ("clear", "z", "like")
        for value in NO_NAMES + ((edit,), {edit: 0}, edit, "set"):
            if not isinstance(value, list) or value and value[0] != edit:
                with self.assertRaises(NoEdit) as caught:
                    function(*values, value)
                index = 0 if isinstance(value, list) else None
                self.assertEqual(caught.exception.index, index)
        for value in NO_EDITS:
            for edits in ([value], [value, edit], [edit, edit, value], [edit, value, None]):
                with self.assertRaises(NoEdit) as caught:
                    function(*values, edits)
                self.assertEqual(caught.exception.index, [item is value for item in edits].index(True))

    def test_no_edit(self):
        table = diamond()
        self.no_edit(make_edits, table)
        self.no_edit(edited, Scene(table, "a"))
        self.no_edit(changes, Scene(table, "a"))
        self.no_edit(may_change, Scene(table, "a"), "like")
        self.assertEqual(table, diamond())

    def test_edit_failed(self):
        self.assertFalse(issubclass(EditFailed, AnswerError))
        good = [("clear", "a", "like"), ("bases", "d", ()), ("book", Book.bare()), ("set", "e", "walk", "native")]
        wrong = [("set", "a", "like", value) for value in NO_NAMES if value is not None]
        wrong += [("set", "a", "unlike", LIKE), ("book", None), ("book", EqualToAll()), ("bases", "e", ("a", "b"))]
        for value in NO_CLASSES:
            wrong += [("set", value, "like", None), ("clear", value, "like"), ("bases", value, ())]
            wrong += [("bases", "a", (value,)), ("clear", "a", value), ("set", "a", value, None)]
        wrong += [("bases", "a", ("a",)), ("bases", "a", ("b",)), ("bases", "e", ("a", "a"))]
        for edit in wrong:
            for edits in ([edit], [*good, edit], [*good, edit, edit, ("clear", "z", "like")]):
                table = diamond()
                scene = Scene(table, "d")
                for function, value in ((make_edits, table), (edited, scene), (changes, scene)):
                    with self.assertRaises(EditFailed) as caught:
                        function(value, edits)
                    self.assertEqual(caught.exception.index, [item is edit for item in edits].index(True))
                self.assertEqual((table, orders(table)), (diamond(), orders(diamond())))

    def test_the_first_edit_that_fails(self):
        """An edit is good or not on the table as the edits before it left it."""
        table = diamond()
        with self.assertRaises(EditFailed) as caught:
            make_edits(table, [("bases", "b", ()), ("bases", "a", ("b",)), ("bases", "b", ("a",)), ("clear", "z", "like")])
        self.assertEqual(caught.exception.index, 1)
        edits = [("bases", "c", ()), ("bases", "b", ()), ("bases", "a", ("b",)), ("bases", "b", ("a",))]
        with self.assertRaises(EditFailed) as caught:
            make_edits(table, edits)
        self.assertEqual(caught.exception.index, 3)
        self.assertEqual((table, orders(table)), (diamond(), orders(diamond())))
        make_edits(table, edits[:3])
        self.assertEqual(table.order("a"), ["a", "b"])


class EditedTest(unittest.TestCase):
    def test_edited(self):
        table = diamond()
        scene = Scene(table, "d", "a", "e")
        edits = [("bases", "d", ("c",)), ("set", "c", "like", "blocked")]
        later = edited(scene, edits)
        make_edits(table, edits)
        self.assertEqual((later.table(), later.classes()), (table, ("d", "a", "e")))
        self.assertEqual(scene.table(), diamond())
        self.assertEqual(edited(edits=[], scene=scene).table(), diamond())

    def test_no_scene(self):
        for value in NO_NAMES + (diamond(), Scene):
            for function, values in ((edited, ()), (changes, ()), (may_change, ("likes",))):
                with self.assertRaises(NoScene) as caught:
                    function(value, *values, None)
                self.assertIs(caught.exception.value, value)


class MayChangeTest(unittest.TestCase):
    def check(self, wanted, scene, operation, edits):
        self.assertIs(may_change(scene, operation, edits), wanted)

    def test_a_book(self):
        self.check(True, one(), "size", [("book", Book())])
        self.check(True, one(), "size", [("clear", "left", "walk"), ("book", None)])

    def test_pairs(self):
        scene = Scene(diamond(), "d", "e", "e")
        self.assertIn(("b", "like"), looked_of(scene, "like"))
        for name, method, wanted in (("d", "like", True), ("b", "like", True), ("a", "like", True), ("e", "like", True),
                                     ("d", "truth", False), ("a", "unlike", False)):
            self.check(wanted, scene, "like", [("set", name, method, "native")])
            self.check(wanted, scene, "like", [("clear", name, method)])
        # The lookup of truth on d ends in c, ahead of a.
        for name, wanted in (("d", True), ("b", True), ("c", True), ("a", False), ("e", False)):
            self.check(wanted, scene, "truth", [("clear", name, "truth")])
        self.check(True, scene, "hash", [("clear", "b", "like")])
        self.check(False, scene.over(edited(scene, [("book", Book.bare())]).table()), "hash", [("clear", "b", "like")])

    def test_bases(self):
        scene = Scene(diamond(), "b", "e", "b")
        for name, wanted in (("a", True), ("b", True), ("c", False), ("d", False), ("e", True)):
            self.check(wanted, scene, "size", [("bases", name, ())])
            self.check(wanted, scene, "size", [("clear", "c", "walk"), ("bases", name, ("z",))])
        for names in (("a", "a", "e"), ("a", "e", "a"), ("e", "a", "a")):
            self.check(True, Scene(diamond(), *names), "size", [("bases", "e", ())])

    def test_no_edits(self):
        self.check(False, Scene(diamond(), "d"), "like", [])
        self.assertIs(may_change(edits=[], operation="like", scene=one()), False)

    def test_any_values_in_edits(self):
        for value in NO_CLASSES:
            for edit in (("set", value, "like", "native"), ("clear", "d", value), ("bases", value, ()), ("clear", value, value)):
                self.check(False, Scene(diamond(), "d"), "like", [edit])
            self.check(True, Scene(diamond(), "d"), "like", [("set", "d", "like", value)])

    def test_errors(self):
        for value in NO_NAMES + ("length", "likes"):
            with self.assertRaises(NoName) as caught:
                may_change(crowded_scene(0), value, None)
            self.assertIs(caught.exception.value, value)
        with self.assertRaises(NoEdit):
            may_change(crowded_scene(0), "unlike", [()])
        with self.assertRaises(TooMany) as caught:
            may_change(crowded_scene(0), "unlike", [("clear", "a", "like")])
        self.assertEqual(caught.exception.limit, 400)

    def test_by_chance(self):
        """Where it is False, machines and names stay."""
        kinds = {True: 0, False: 0}
        for seed in range(150):
            chance = random.Random(seed)
            scene = chance_scene(seed, bodies=seed % 4)
            edits = [chance_edit(chance, scene.table()) for _ in range(chance.randint(1, 2))]
            try:
                later = edited(scene, edits)
            except EditFailed:
                continue
            for operation in OPERATIONS:
                may = may_change(scene, operation, edits)
                kinds[may] += 1
                if not may:
                    self.assertEqual(machine_of(scene, operation), machine_of(later, operation))
                    self.assertEqual(names_of(scene, operation), names_of(later, operation))
        self.assertGreater(min(kinds.values()), 200)


class ChangesTest(unittest.TestCase):
    def test_by_hand(self):
        scene = three({(0, "like"): "native", (0, "unlike"): "native"})
        self.assertEqual(changes(scene, [("clear", "left", "unlike")]), [("unlike", [])])
        wanted = [("like", ["decline"]), ("unlike", ["decline", "decline"])]
        self.assertEqual(changes(scene, [("set", "right", "like", "native")]), wanted)
        wanted = [("truth", []), ("size", []), ("turned", [])]
        self.assertEqual(changes(scene, [("set", "left", "length", "native")]), wanted)
        self.assertEqual(changes(edits=[("set", "left", "length", None)], scene=scene), [])

    def test_by_chance(self):
        met = set()
        for seed in range(80):
            chance = random.Random(seed)
            scene = chance_scene(seed, bodies=seed % 4)
            edits = [chance_edit(chance, scene.table()) for _ in range(chance.randint(0, 3))]
            try:
                later = edited(scene, edits)
            except EditFailed:
                continue
            wanted = []
            for operation in OPERATIONS:
                before, behind = machine_of(scene, operation), machine_of(later, operation)
                if before != behind:
                    wanted.append((operation, parting(before, behind)))
            self.assertEqual(changes(scene, edits), wanted)
            met.add(len(wanted))
        self.assertGreater(len(met), 4)

    def test_too_many(self):
        with self.assertRaises(TooMany) as caught:
            changes(crowded_scene(0), [])
        self.assertEqual(caught.exception.limit, 400)
        with self.assertRaises(EditFailed):
            changes(crowded_scene(0), [("clear", "z", "like")])


class ExchangesTest(unittest.TestCase):
    def wide(self):
        """A table of b over a, of p, q and r for themselves, and of left over them all."""
        table = Table(Book())
        for name, *bases in ("a", "ba", "p", "q", "r"):
            table.add(name, *bases)
        table.add("left", "b", "a", "p", "q", "r")
        table["p", "like"] = "native"
        table["q", "like"] = "native"
        return table

    def test_exchanged_bases(self):
        scene = Scene(self.wide(), "a")
        self.assertEqual(exchanged_bases(scene, "left", 0, 1), ("bases", "left", ("a", "b", "p", "q", "r")))
        self.assertEqual(exchanged_bases(scene, "left", 4, 1), ("bases", "left", ("b", "r", "p", "q", "a")))
        self.assertEqual(exchanged_bases(scene, "left", 2, 2), ("bases", "left", ("b", "a", "p", "q", "r")))
        self.assertEqual(exchanged_bases(other=0, one=0, name="b", scene=scene), ("bases", "b", ("a",)))
        self.assertEqual(scene.table(), self.wide())

    def test_errors_of_exchanged_bases(self):
        scene = Scene(self.wide(), "a")
        for value in NO_NAMES:
            with self.assertRaises(NoScene) as caught:
                exchanged_bases(value, "z", -1, -1)
            self.assertIs(caught.exception.value, value)
        for value in NO_CLASSES:
            for function, values in ((exchanged_bases, (-1, -1)), (free_exchanges, ())):
                with self.assertRaises(NoClass) as caught:
                    function(scene, value, *values)
                self.assertIs(caught.exception.name, value)
        for value in NO_NAMES:
            if isinstance(value, bool) or not isinstance(value, int) or value not in range(5):
                for one_number, other_number in ((value, -1), (value, True), (0, value), (4, value)):
                    with self.assertRaises(NoNumber) as caught:
                        exchanged_bases(scene, "left", one_number, other_number)
                    self.assertIs(caught.exception.value, value)
        with self.assertRaises(NoNumber) as caught:
            exchanged_bases(scene, "a", 0, 0)
        self.assertEqual(caught.exception.value, 0)

    def test_free_exchanges(self):
        scene = Scene(self.wide(), "left")
        found = free_exchanges(scene, "left")
        table = self.wide()
        wanted = []
        for one_number in range(5):
            for other in range(one_number + 1, 5):
                bases = list(table.bases("left"))
                bases[one_number], bases[other] = bases[other], bases[one_number]
                later = table.twin()
                try:
                    later.set_bases("left", *bases)
                except NoOrder:
                    continue
                like, like_then = Scene(table, "left").lookup(0, "like"), Scene(later, "left").lookup(0, "like")
                if like == like_then:
                    wanted.append((one_number, other))
        self.assertEqual(found, wanted)
        # b stands ahead of a in its own order, and p and q both have like.
        self.assertNotIn((0, 1), found)
        self.assertNotIn((2, 3), found)
        self.assertIn((3, 4), found)
        self.assertEqual(scene.table(), self.wide())
        self.assertEqual(free_exchanges(name="left", scene=Scene(self.wide(), "a", "p", "r")),
                         [pair for pair in [(a, b) for a in range(5) for b in range(a + 1, 5)]
                          if self.allowed(exchanged_bases(scene, "left", *pair))])

    def allowed(self, edit):
        try:
            make_edits(self.wide(), [edit])
        except EditFailed:
            return False
        return True

    def test_no_scene(self):
        for value in NO_NAMES + (self.wide(), Scene):
            with self.assertRaises(NoScene) as caught:
                free_exchanges(value, "z")
            self.assertIs(caught.exception.value, value)

    def test_no_bases(self):
        for name in ("a", "b", "p"):
            self.assertEqual(free_exchanges(Scene(self.wide(), "left"), name), [])

    def test_too_many(self):
        table = crowded_scene(0).table()
        names = crowded_scene(0).classes()
        table.set_bases("b")
        table.set_bases("a", "c", "b")
        with self.assertRaises(TooMany) as caught:
            free_exchanges(Scene(table, *names), "a")
        self.assertEqual(caught.exception.limit, 400)

    def test_by_chance(self):
        met = set()
        for seed in range(60):
            scene = chance_scene(seed, bodies=seed % 3, entries=0.25)
            for name in scene.table():
                many = len(scene.table().bases(name))
                found = free_exchanges(scene, name)
                for pair in [(a, b) for a in range(many) for b in range(a + 1, many)]:
                    try:
                        free = changes(scene, [exchanged_bases(scene, name, *pair)]) == []
                    except EditFailed:
                        free = False
                    self.assertEqual(pair in found, free)
                    met.add(free)
        self.assertEqual(met, {True, False})

    def test_one_base(self):
        self.assertEqual(free_exchanges(chain(4), "a"), [])
