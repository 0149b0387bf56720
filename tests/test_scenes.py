import unittest

from answersby.bodies import Body
from answersby.books import Book
from answersby.errors import NoClass, NoName, NoOperand, NoTable
from answersby.names import METHODS, OPERATIONS
from answersby.scenes import Scene
from answersby.tables import Table
from samples import NO_NAMES, STRANGE, RefusesAll, misspelt

LIKE = Body("like", ("further",))
HASH = Body("hash", ("count", 2))


def diamond():
    """A table with d over b and c over a, and with s alone."""
    table = Table(Book())
    for name, *bases in (("a",), ("b", "a"), ("c", "a"), ("d", "b", "c"), ("s",)):
        table.add(name, *bases)
    return table


class SceneTest(unittest.TestCase):
    def test_left_right_item(self):
        table = diamond()
        self.assertEqual(Scene(table, "a").classes(), ("a", "a", "a"))
        self.assertEqual(Scene(table, "a", "b").classes(), ("a", "b", "a"))
        self.assertEqual(Scene(table, "a", "b", "c").classes(), ("a", "b", "c"))
        self.assertEqual(Scene(table, "a", None, "c").classes(), ("a", "a", "c"))
        self.assertEqual(Scene(table, "a", None, None).classes(), ("a", "a", "a"))
        self.assertEqual(Scene(item="c", left="b", table=table).classes(), ("b", "b", "c"))
        self.assertEqual(Scene(table, right="c", left="b").classes(), ("b", "c", "b"))

    def test_no_table(self):
        for value in NO_NAMES + ("a", Book(), Table, ["a"]):
            for left in ("a", None, 1):
                with self.assertRaises(NoTable) as caught:
                    Scene(value, left)
                self.assertIs(caught.exception.value, value)
                with self.assertRaises(NoTable) as caught:
                    Scene(diamond(), "a").over(value)
                self.assertIs(caught.exception.value, value)

    def test_no_class(self):
        table = diamond()
        for value in NO_NAMES + ("x", "ab", ("a",), RefusesAll()):
            given = [(value,), (value, None), (value, "a", "b"), (value, "x", [])]
            if value is not None:
                given += [("a", value), ("a", value, "b"), ("a", value, 1), ("a", "b", value), ("a", None, value)]
            for names in given:
                with self.assertRaises(NoClass) as caught:
                    Scene(table, *names)
                self.assertIs(caught.exception.name, value)

    def test_the_scene_keeps_the_table_as_it_was(self):
        table = diamond()
        table["b", "like"] = "native"
        scene = Scene(table, "d", "b", "s")
        kept = table.twin()
        table["b", "like"] = None
        table["d", "like"] = "blocked"
        table.set_bases("d", "s")
        book = Book.bare()
        table.set_book(book)
        book["size"] = ()
        self.assertEqual(scene.lookup(0, "like"), ("b", "native"))
        self.assertEqual(scene.walked(0, "hash"), ["d", "b"])
        self.assertEqual(scene.ways("truth"), ("truth", "length"))
        self.assertEqual(scene.table(), kept)

    def test_the_returned_book_goes_on_by_itself(self):
        table = diamond()
        table.set_book(Book.bare())
        scene = Scene(table, "d")
        first = scene.book()
        self.assertEqual(first, Book.bare())
        first["each"] = ()
        first.ends_same = True
        self.assertEqual(scene.book(), Book.bare())
        self.assertEqual(scene.ways("each"), ("walk",))

    def test_entries_of_a_class(self):
        table = diamond()
        table["b", "like"] = LIKE
        scene = Scene(table, "d")
        table["b", "like"] = None
        self.assertEqual([scene.entry(name, "like") for name in "abcds"], [None, LIKE, None, None, None])

    def test_the_returned_table_goes_on_by_itself(self):
        scene = Scene(diamond(), "d")
        first = scene.table()
        first["d", "like"] = "native"
        first.set_bases("d")
        first.set_book(Book.bare())
        self.assertEqual(scene.table(), diamond())
        self.assertIsNone(scene.lookup(0, "like"))
        self.assertEqual(scene.walked(0, "like"), ["d", "b", "c", "a"])
        self.assertEqual(scene.ways("each"), ("walk", "item"))

    def test_ways(self):
        book = Book()
        book["unlike"] = ("turned", "own")
        book["size"] = ()
        scene = Scene(with_classes(book, "a"), "a")
        for operation in OPERATIONS:
            self.assertEqual(scene.ways(operation), book[operation])
        self.assertEqual(scene.ways(operation="size"), ())
        wrong = list(NO_NAMES) + ["length", "item", "step"]
        for operation in OPERATIONS:
            wrong.extend(misspelt(operation))
        for value in wrong:
            with self.assertRaises(NoName) as caught:
                scene.ways(value)
            self.assertIs(caught.exception.value, value)

    def test_over(self):
        scene = Scene(diamond(), "b", item="d")
        other = diamond()
        other["b", "like"] = "blocked"
        other.set_book(Book.bare())
        later = scene.over(other)
        self.assertIsInstance(later, Scene)
        self.assertEqual(later.classes(), ("b", "b", "d"))
        self.assertEqual(later.table(), other)
        self.assertEqual(later.lookup(0, "like"), ("b", "blocked"))
        self.assertIsNone(scene.lookup(0, "like"))
        self.assertEqual(scene.over(table=other).ways("each"), ("walk",))
        other["b", "like"] = None
        self.assertEqual(later.lookup(0, "like"), ("b", "blocked"))

    def test_over_a_table_without_the_classes(self):
        for names, missing in (("bds", "b"), ("ad", "d"), ("acb", "c")):
            scene = Scene(diamond(), *names)
            with self.assertRaises(NoClass) as caught:
                scene.over(with_classes(Book(), "a"))
            self.assertEqual(caught.exception.name, missing)


def with_classes(book, *names):
    table = Table(book)
    for name in names:
        table.add(name)
    return table


class LookupTest(unittest.TestCase):
    def test_from_the_beginning_and_behind_each_class(self):
        for method in METHODS:
            for entry in ("native", "blocked"):
                table = diamond()
                table.set_book(Book.bare())
                table["c", method] = entry
                table["s", method] = "native"
                scene = Scene(table, "d", "s", "c")
                for behind in (None, "d", "b"):
                    self.assertEqual(scene.lookup(0, method, behind), ("c", entry))
                for behind in ("c", "a"):
                    self.assertIsNone(scene.lookup(0, method, behind))
                self.assertEqual(scene.walked(0, method), ["d", "b", "c"])
                self.assertEqual(scene.walked(0, method, "d"), ["b", "c"])
                self.assertEqual(scene.walked(0, method, "b"), ["c"])
                self.assertEqual(scene.walked(0, method, "c"), ["a"])
                self.assertEqual(scene.walked(0, method, "a"), [])
                self.assertEqual(scene.lookup(1, method), ("s", "native"))
                self.assertEqual(scene.walked(1, method), ["s"])
                self.assertIsNone(scene.lookup(1, method, "s"))
                self.assertEqual(scene.lookup(2, method), ("c", entry))
                self.assertEqual(scene.walked(2, method, "c"), ["a"])

    def test_the_first_of_several(self):
        table = diamond()
        for name, entry in (("a", "native"), ("b", LIKE), ("c", "blocked"), ("d", "native")):
            table[name, "like"] = entry
        scene = Scene(table, "d")
        self.assertEqual(scene.lookup(0, "like"), ("d", "native"))
        self.assertEqual(scene.lookup(0, "like", "d"), ("b", LIKE))
        self.assertEqual(scene.lookup(0, "like", "b"), ("c", "blocked"))
        self.assertEqual(scene.lookup(0, "like", "c"), ("a", "native"))
        self.assertIsNone(scene.lookup(0, "like", "a"))
        self.assertEqual(scene.walked(0, "like"), ["d"])
        self.assertEqual(scene.walked(0, "like", "c"), ["a"])

    def test_nothing_found(self):
        scene = Scene(diamond(), "d")
        for method in METHODS:
            self.assertIsNone(scene.lookup(0, method))
            self.assertEqual(scene.walked(0, method), ["d", "b", "c", "a"])

    def test_returned_lists_are_new(self):
        scene = Scene(diamond(), "d")
        scene.walked(0, "like").clear()
        scene.walked(0, "like", "d").clear()
        self.assertEqual(scene.walked(0, "like"), ["d", "b", "c", "a"])
        self.assertIsInstance(scene.classes(), tuple)

    def test_arguments_by_name(self):
        table = diamond()
        table["c", "like"] = "native"
        scene = Scene(table, "s", "d")
        self.assertEqual(scene.lookup(method="like", operand=1), ("c", "native"))
        self.assertEqual(scene.lookup(behind="b", method="like", operand=1), ("c", "native"))
        self.assertEqual(scene.walked(1, behind="d", method="like"), ["b", "c"])
        self.assertEqual(scene.walked(behind=None, operand=0, method="like"), ["s"])


class BarredHashTest(unittest.TestCase):
    def scene(self, bars, entries):
        table = diamond()
        book = Book.bare()
        book.bars_hash = bars
        table.set_book(book)
        for name, method, entry in entries:
            table[name, method] = entry
        return Scene(table, "d")

    def test_by_native_and_by_a_body(self):
        for entry in ("native", LIKE):
            scene = self.scene(True, [("b", "like", entry), ("a", "hash", "native")])
            self.assertEqual(scene.lookup(0, "hash"), ("b", "barred"))
            self.assertEqual(scene.lookup(0, "hash", "d"), ("b", "barred"))
            self.assertEqual(scene.lookup(0, "hash", "b"), ("a", "native"))
            self.assertEqual(scene.walked(0, "hash"), ["d", "b"])
            self.assertEqual(scene.walked(0, "hash", "d"), ["b"])
            self.assertEqual(scene.walked(0, "hash", "b"), ["c", "a"])

    def test_not_by_blocked(self):
        scene = self.scene(True, [("b", "like", "blocked"), ("a", "hash", "native")])
        self.assertEqual(scene.lookup(0, "hash"), ("a", "native"))
        self.assertEqual(scene.walked(0, "hash"), ["d", "b", "c", "a"])
        self.assertIsNone(self.scene(True, [("b", "like", "blocked")]).lookup(0, "hash"))

    def test_not_by_unlike_or_another_method(self):
        for method in METHODS:
            if method not in ("like", "hash"):
                scene = self.scene(True, [("b", method, "native")])
                self.assertIsNone(scene.lookup(0, "hash"))
                self.assertEqual(scene.walked(0, "hash"), ["d", "b", "c", "a"])

    def test_not_without_the_flag(self):
        for entry in ("native", LIKE, "blocked"):
            scene = self.scene(False, [("b", "like", entry), ("a", "hash", HASH)])
            self.assertEqual(scene.lookup(0, "hash"), ("a", HASH))
            self.assertEqual(scene.walked(0, "hash"), ["d", "b", "c", "a"])

    def test_an_entry_for_hash_goes_ahead(self):
        for entry in ("native", "blocked", HASH):
            scene = self.scene(True, [("b", "like", "native"), ("b", "hash", entry)])
            self.assertEqual(scene.lookup(0, "hash"), ("b", entry))
            scene = self.scene(True, [("d", "hash", entry), ("b", "like", "native")])
            self.assertEqual(scene.lookup(0, "hash"), ("d", entry))
            self.assertEqual(scene.lookup(0, "hash", "d"), ("b", "barred"))

    def test_only_hash_is_barred(self):
        scene = self.scene(True, [("b", "like", "native"), ("a", "truth", "native")])
        for method in METHODS:
            if method not in ("hash", "like", "truth"):
                self.assertIsNone(scene.lookup(0, method))
        self.assertEqual(scene.lookup(0, "truth"), ("a", "native"))
        self.assertEqual(scene.lookup(0, "like"), ("b", "native"))


class RefusedTest(unittest.TestCase):
    def refused(self, error, value, *given):
        scene = Scene(diamond(), "d", "b", "s")
        for ask in (scene.lookup, scene.walked):
            with self.assertRaises(error) as caught:
                ask(*given)
            (field,) = vars(caught.exception).values()
            self.assertIs(field, value)

    def test_no_operand(self):
        for value in STRANGE + (True, False, 3, -1, 4, 10 ** 30, "0", "a", "self", [0], (0,)):
            self.refused(NoOperand, value, value, "like")
            self.refused(NoOperand, value, value, "nothing", "nobody")
            self.refused(NoOperand, value, value, None, RefusesAll())

    def test_no_name(self):
        wrong = list(NO_NAMES) + ["step", "size", "member", "each", "turned"]
        for method in METHODS:
            wrong.extend(word for word in misspelt(method) if word not in METHODS)
        for value in wrong:
            for operand in (0, 1, 2):
                self.refused(NoName, value, operand, value)
                self.refused(NoName, value, operand, value, "nobody")

    def test_no_class(self):
        for value in NO_NAMES + ("x", "ab", "D"):
            if value is not None:
                self.refused(NoClass, value, 0, "like", value)
        for operand, behind in ((0, "s"), (1, "d"), (1, "c"), (2, "d"), (2, "a")):
            self.refused(NoClass, behind, operand, "hash", behind)
