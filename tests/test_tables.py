import random
import unittest

from answersby.bodies import Body
from answersby.books import Book
from answersby.errors import NoBook, NoClass, NoEntry, NoName, NoOrder, TooMany, Used
from answersby.names import METHODS
from answersby.tables import Table
from samples import NO_NAMES, STRANGE, RefusesAll, misspelt

BODY = Body("like", ("not", ("ask", "unlike", "self", "other")))
EIGHT = ("a", "b", "c", "d", "e", "f", "g", "h")


def table_of(*rows):
    """A table over a full book; a row is a text: a name and its bases."""
    table = Table(Book())
    for row in rows:
        table.add(*row.split())
    return table


def told(table):
    """Everything that a table says, as plain values."""
    book = table.book()
    return (
        [(name, table.bases(name), table.order(name), table.entries(name), table.heirs(name)) for name in table],
        [book[operation] for operation in book], [book.bars_hash, book.ends_same, book.ends_true],
    )


class TableCase(unittest.TestCase):
    def refused(self, error, kept, table, ask, *given, **named):
        """That a call raises this error with this in its field, and changes nothing."""
        before = told(table)
        with self.assertRaises(error) as caught:
            ask(*given, **named)
        (value,) = vars(caught.exception).values()
        if isinstance(kept, str):
            self.assertEqual(value, kept)
        else:
            self.assertIs(value, kept)
        self.assertEqual(told(table), before)


class BookOfATableTest(TableCase):
    def test_no_book(self):
        for value in NO_NAMES + (Book, "book", Table(Book())):
            with self.assertRaises(NoBook) as caught:
                Table(value)
            self.assertIs(caught.exception.value, value)
            table = table_of("a")
            self.refused(NoBook, value, table, table.set_book, value)

    def test_the_given_book_goes_on_by_itself(self):
        book = Book()
        table = Table(book)
        book["each"] = ()
        book.ends_true = False
        self.assertEqual(table.book(), Book())
        bare = Book.bare()
        self.assertIsNone(table.set_book(bare))
        self.assertEqual(table.book(), Book.bare())
        bare.ends_true = True
        bare["each"] = ()
        self.assertEqual(table.book(), Book.bare())

    def test_the_returned_book_goes_on_by_itself(self):
        table = Table(Book.bare())
        book = table.book()
        book["each"] = ()
        book.bars_hash = True
        self.assertEqual(table.book(), Book.bare())

    def test_by_name(self):
        table = Table(book=Book.bare())
        self.assertEqual(table.book(), Book.bare())
        table.set_book(book=Book())
        self.assertEqual(table.book(), Book())


class AddTest(TableCase):
    def test_classes_and_their_bases(self):
        table = table_of("top", "left top", "right top", "z left right")
        self.assertEqual(table.listed(), ["top", "left", "right", "z"])
        self.assertEqual(table.bases("z"), ("left", "right"))
        self.assertEqual(table.bases("top"), ())
        self.assertIsInstance(table.bases("z"), tuple)
        self.assertEqual(table.order("z"), ["z", "left", "right", "top"])
        self.assertEqual(table.entries("z"), [])
        self.assertIsNone(table.add("zz"))
        self.assertIsNone(table.add(name="abcdef"))
        self.assertEqual(table.listed()[-2:], ["zz", "abcdef"])

    def test_no_name(self):
        wrong = NO_NAMES + ("abcdefg", "", "a1", "1", "a b", "A", "aB", "a_", "-", "a\n", "\u00e9", "\u00df", "\u0131")
        for value in wrong:
            table = table_of("a")
            self.refused(NoName, value, table, table.add, value)
            self.refused(NoName, value, table, table.add, value, "nothere", None)
        for value in ("a", "z", "az", "abcdef", "zzzzzz", "self", "none", "like"):
            self.assertEqual(table_of(value).listed(), [value])

    def test_used(self):
        table = table_of("a", "b")
        self.refused(Used, "a", table, table.add, "a")
        self.refused(Used, "b", table, table.add, "b", "nobody", "a", "a")

    def test_no_class(self):
        table = table_of("a", "b")
        for value in NO_NAMES + ("c", "ab", "x"):
            self.refused(NoClass, value, table, table.add, "x", value)
            self.refused(NoClass, value, table, table.add, "x", "a", value)
            self.refused(NoClass, value, table, table.add, "x", "a", "a", value)
            self.refused(NoClass, value, table, table.add, "x", value, None, "a")

    def test_no_order(self):
        table = table_of("a", "b a", "c b", "d a")
        self.refused(NoOrder, "x", table, table.add, "x", "a", "a")
        self.refused(NoOrder, "x", table, table.add, "x", "b", "d", "b")
        self.refused(NoOrder, "x", table, table.add, "x", "a", "b")
        self.refused(NoOrder, "x", table, table.add, "x", "a", "c")
        table = table_of("a", "b", "c a b", "d b a")
        self.refused(NoOrder, "x", table, table.add, "x", "c", "d")

    def test_too_many(self):
        table = table_of(*EIGHT)
        self.refused(TooMany, 8, table, table.add, "x")
        self.refused(TooMany, 8, table, table.add, "x", "a")
        self.assertEqual(len(table_of(*EIGHT[:7])), 7)

    def test_which_one_is_first(self):
        table = table_of(*EIGHT)
        self.refused(NoName, "A", table, table.add, "A", "nobody")
        self.refused(Used, "h", table, table.add, "h", "nobody")
        self.refused(NoClass, "nobody", table, table.add, "x", "a", "a", "nobody")
        self.refused(NoOrder, "x", table, table.add, "x", "a", "a")
        self.refused(TooMany, 8, table, table.add, "x", "a", "b")


class EntriesTest(TableCase):
    def test_each_kind(self):
        table = table_of("a", "b a")
        self.assertIsNone(table["a", "like"])
        for entry in ("native", "blocked", BODY, "native"):
            table["a", "like"] = entry
            self.assertEqual(table["a", "like"], entry)
            self.assertEqual(table.entries("a"), [("like", entry)])
            self.assertIsNone(table["b", "like"])
            self.assertIsNone(table["a", "unlike"])

    def test_every_method(self):
        for method in METHODS:
            for entry in ("native", "blocked"):
                table = table_of("a")
                table["a", method] = entry
                self.assertEqual([table["a", each] for each in METHODS], [entry if m == method else None for m in METHODS])

    def test_a_body_for_its_own_method(self):
        for method in ("truth", "length", "has", "like", "unlike", "before", "behind", "hash"):
            body = Body(method, ("ask", "truth", "self"))
            table = table_of("a")
            for other in METHODS:
                if other == method:
                    table["a", other] = body
                    self.assertEqual(table["a", other], body)
                else:
                    self.refused(NoEntry, other, table, table.__setitem__, ("a", other), body)

    def test_taken_away(self):
        table = table_of("a")
        table["a", "like"] = None
        self.assertEqual(table.entries("a"), [])
        for entry in ("native", "blocked", BODY):
            table["a", "like"] = entry
            table["a", "hash"] = "native"
            table["a", "like"] = None
            self.assertIsNone(table["a", "like"])
            self.assertEqual(table.entries("a"), [("hash", "native")])

    def test_in_the_order_of_the_methods(self):
        table = table_of("a")
        for method in METHODS[::-1]:
            table["a", method] = "blocked"
        self.assertEqual(table.entries("a"), [(method, "blocked") for method in METHODS])
        table["a", "walk"] = None
        table["a", "walk"] = "native"
        self.assertEqual([method for method, _ in table.entries("a")], list(METHODS))
        table.entries("a").clear()
        self.assertEqual(len(table.entries("a")), len(METHODS))

    def test_no_class(self):
        table = table_of("a")
        for value in NO_NAMES + ("b", "aa", "A"):
            for ask in (table.entries, table.bases, table.order, table.heirs, table.set_bases):
                self.refused(NoClass, value, table, ask, value)
            for method in ("like", "nothing", None):
                self.refused(NoClass, value, table, table.__getitem__, (value, method))
                self.refused(NoClass, value, table, table.__setitem__, (value, method), "native")
                self.refused(NoClass, value, table, table.__setitem__, (value, method), RefusesAll())

    def test_no_name(self):
        table = table_of("a")
        wrong = list(NO_NAMES) + ["step", "size", "member", "each", "turned", "native"]
        for method in METHODS:
            wrong.extend(word for word in misspelt(method) if word not in METHODS)
        for value in wrong:
            self.refused(NoName, value, table, table.__getitem__, ("a", value))
            for entry in ("native", None, "nothing", RefusesAll()):
                self.refused(NoName, value, table, table.__setitem__, ("a", value), entry)

    def test_no_entry(self):
        table = table_of("a")
        table["a", "hash"] = "blocked"
        wrong = [value for value in NO_NAMES if value is not None]
        wrong += ["barred", "body", "Native", "natives", "block", "like", ("native",), ["native"], b"native", Body]
        wrong += [BODY.expression, ("like", BODY), Book()]
        for method in ("hash", "like", "call"):
            for value in wrong:
                self.refused(NoEntry, method, table, table.__setitem__, ("a", method), value)


class OrdersOfATableTest(TableCase):
    def test_heirs(self):
        table = table_of("a", "b a", "c", "d c b", "e d")
        self.assertEqual(table.heirs("a"), ["b", "d", "e"])
        self.assertEqual(table.heirs("b"), ["d", "e"])
        self.assertEqual(table.heirs("c"), ["d", "e"])
        self.assertEqual(table.heirs("e"), [])
        table.heirs("a").clear()
        self.assertEqual(table.heirs("a"), ["b", "d", "e"])

    def test_heirs_in_the_order_in_which_they_were_added(self):
        table = table_of("a", "b", "c", "d")
        table.set_bases("b", "d")
        table.set_bases("a", "b")
        table.set_bases("c", "d")
        self.assertEqual(table.heirs("d"), ["a", "b", "c"])

    def test_returned_orders_are_new(self):
        table = table_of("a", "b a")
        table.order("b").clear()
        table.order("b").append("x")
        self.assertEqual(table.order("b"), ["b", "a"])
        twin = table.twin()
        twin.order("b").clear()
        self.assertEqual(table.order("b"), ["b", "a"])
        table.listed().clear()
        self.assertEqual(table.listed(), ["a", "b"])

    def test_as_python_orders_its_classes(self):
        chance = random.Random(4)
        for _ in range(300):
            table, kinds = Table(Book()), {}
            for name in EIGHT:
                bases = chance.sample(sorted(kinds), chance.randint(0, min(3, len(kinds))))
                try:
                    kind = type(name, tuple(kinds[base] for base in bases), {})
                except TypeError:
                    self.refused(NoOrder, name, table, table.add, name, *bases)
                    continue
                kinds[name] = kind
                table.add(name, *bases)
            for name, kind in kinds.items():
                self.assertEqual(table.order(name), [each.__name__ for each in kind.__mro__[:-1]])
                self.assertEqual(table.heirs(name), [o for o in kinds if o != name and issubclass(kinds[o], kind)])


class SetBasesTest(TableCase):
    def test_other_bases(self):
        table = table_of("a", "b", "c a", "d c")
        self.assertIsNone(table.set_bases("c", "b", "a"))
        self.assertEqual(table.bases("c"), ("b", "a"))
        self.assertEqual(table.order("c"), ["c", "b", "a"])
        self.assertEqual(table.order("d"), ["d", "c", "b", "a"])
        self.assertEqual(table.heirs("b"), ["c", "d"])
        table.set_bases("c")
        self.assertEqual(table.bases("c"), ())
        self.assertEqual(table.order("d"), ["d", "c"])
        self.assertEqual(table.heirs("a"), [])
        self.assertEqual(table.listed(), ["a", "b", "c", "d"])
        table.set_bases("a", "d")
        self.assertEqual(table.order("a"), ["a", "d", "c"])

    def test_entries_stay(self):
        table = table_of("a", "b")
        table["b", "like"] = BODY
        table.set_bases("b", "a")
        self.assertEqual(table["b", "like"], BODY)

    def test_name_by_name(self):
        table = table_of("a", "b a")
        table.set_bases(name="b")
        self.assertEqual(table.bases("b"), ())

    def test_no_class(self):
        table = table_of("a", "b a", "c")
        for value in NO_NAMES + ("x", "ab"):
            self.refused(NoClass, value, table, table.set_bases, value, "nobody")
            self.refused(NoClass, value, table, table.set_bases, "a", value)
            self.refused(NoClass, value, table, table.set_bases, "a", "a", "b", value)
            self.refused(NoClass, value, table, table.set_bases, "c", "a", value, None)

    def test_the_class_among_its_own_bases(self):
        table = table_of("a", "b a", "c b", "d")
        self.refused(NoOrder, "a", table, table.set_bases, "a", "a")
        self.refused(NoOrder, "a", table, table.set_bases, "a", "b")
        self.refused(NoOrder, "a", table, table.set_bases, "a", "c")
        self.refused(NoOrder, "a", table, table.set_bases, "a", "d", "c")
        self.refused(NoOrder, "b", table, table.set_bases, "b", "a", "c")
        self.refused(NoOrder, "b", table, table.set_bases, "b", "b", "b")

    def test_itself(self):
        table = table_of("a", "b a", "c", "d c")
        self.refused(NoOrder, "c", table, table.set_bases, "c", "a", "a")
        self.refused(NoOrder, "c", table, table.set_bases, "c", "a", "b")
        table.set_bases("c", "b", "a")
        self.assertEqual(table.order("d"), ["d", "c", "b", "a"])

    def test_the_first_heir(self):
        table = table_of("a", "b", "c", "d a b", "e c d", "f e")
        # With b ahead of a, c and d do not go together in e, and f has no order then, too.
        self.refused(NoOrder, "e", table, table.set_bases, "c", "b", "a")
        self.refused(NoOrder, "e", table, table.set_bases, "d", "c")

    def test_the_first_heir_in_the_order_in_which_they_were_added(self):
        table = table_of("f", "a", "b", "c", "d a b", "e")
        table.set_bases("e", "c", "d")
        table.set_bases("f", "e")
        # f has no order because its base e, which was added behind it, has none.
        self.refused(NoOrder, "f", table, table.set_bases, "c", "b", "a")
        table.set_bases("f")
        self.refused(NoOrder, "e", table, table.set_bases, "c", "b", "a")
        table.set_bases("e")
        table.set_bases("c", "b", "a")

    def test_two_heirs_that_fail_each_by_itself(self):
        table = table_of("x", "y", "q", "p x y", "t q p", "s q p")
        self.refused(NoOrder, "t", table, table.set_bases, "q", "y", "x")
        table = table_of("x", "y", "s", "t", "q", "p x y")
        table.set_bases("t", "q", "p")
        table.set_bases("s", "q", "p")
        self.refused(NoOrder, "s", table, table.set_bases, "q", "y", "x")

    def test_itself_ahead_of_an_heir(self):
        table = table_of("h", "a", "b a", "c")
        table.set_bases("h", "c")
        self.refused(NoOrder, "c", table, table.set_bases, "c", "a", "b")

    def test_changes_that_are_refused_leave_orders_that_go_on(self):
        table = table_of("a", "b", "c", "d a b", "e c d")
        with self.assertRaises(NoOrder):
            table.set_bases("c", "b", "a")
        self.assertEqual(table.order("c"), ["c"])
        self.assertEqual(table.order("e"), ["e", "c", "d", "a", "b"])
        table.add("f", "e", "c")
        self.assertEqual(table.order("f"), ["f", "e", "c", "d", "a", "b"])


class TwinsTest(TableCase):
    def full(self):
        table = table_of("a", "b", "c a b")
        table["a", "like"] = BODY
        table["c", "hash"] = "blocked"
        return table

    def test_twin_goes_on_by_itself(self):
        def change(table):
            table["a", "like"] = "native"
            table["c", "hash"] = None
            table["b", "truth"] = "native"
            table.set_bases("c", "b")
            table.add("d", "c")
            table.set_book(Book.bare())
        for changed in (0, 1):
            table = self.full()
            twin = table.twin()
            self.assertEqual(table, twin)
            self.assertEqual(told(table), told(twin))
            before = told(table)
            change((table, twin)[changed])
            self.assertEqual(told((twin, table)[changed]), before)
            self.assertNotEqual(table, twin)

    def test_twins_that_each_add_a_class_of_the_same_name(self):
        table = self.full()
        twin = table.twin()
        table.add("d", "a")
        twin.add("d", "c")
        table["d", "call"] = "native"
        self.assertEqual((table.order("d"), table.heirs("c")), (["d", "a"], []))
        self.assertEqual((twin.order("d"), twin.heirs("c")), (["d", "c", "a", "b"], ["d"]))
        self.assertEqual((table.bases("d"), twin.bases("d")), (("a",), ("c",)))
        self.assertEqual(twin.entries("d"), [])

    def test_equal(self):
        self.assertTrue(self.full() == self.full())
        self.assertFalse(self.full() != self.full())
        changes = (
            lambda table: table.set_book(Book.bare()),
            lambda table: table.add("d"),
            lambda table: table.set_bases("c", "b", "a"),
            lambda table: table.set_bases("c"),
            lambda table: table.__setitem__(("a", "like"), None),
            lambda table: table.__setitem__(("a", "like"), "native"),
            lambda table: table.__setitem__(("a", "like"), Body("like", ("yes",))),
            lambda table: table.__setitem__(("b", "call"), "blocked"),
        )
        for change in changes:
            other = self.full()
            change(other)
            self.assertFalse(other == self.full())
            self.assertFalse(self.full() == other)
            self.assertTrue(other != self.full())

    def test_the_order_of_the_classes_counts(self):
        self.assertNotEqual(table_of("a", "b"), table_of("b", "a"))
        self.assertNotEqual(table_of("a"), table_of("b"))

    def test_how_it_came_about_does_not_count(self):
        table, other = table_of("a", "b a"), table_of("a", "b")
        other.set_bases("b", "a")
        table["a", "like"] = "native"
        table["a", "hash"] = "native"
        other["a", "hash"] = "native"
        other["a", "walk"] = "native"
        other["a", "like"] = "native"
        other["a", "walk"] = None
        self.assertEqual(table, other)

    def test_equal_to_nothing_else(self):
        for value in (None, "a", [], ["a"], {"a": ()}, Book(), object()):
            self.assertIs(table_of("a") == value, False)
            self.assertIs(Table(Book()) == value, False)
            self.assertIs(table_of("a") != value, True)

    def test_in(self):
        table = table_of("a", "bag")
        self.assertIs("a" in table, True)
        self.assertIs("bag" in table, True)
        for value in STRANGE + NO_NAMES + ("b", "ba", "A", ("a",), ["a"]):
            self.assertIs(value in table, False)
        self.assertIs("a" in Table(Book()), False)

    def test_iterated(self):
        table = Table(Book())
        self.assertEqual((list(table), table.listed(), len(table)), ([], [], 0))
        for many, name in enumerate(("z", "a", "m")):
            table.add(name)
            self.assertEqual(list(table), ["z", "a", "m"][:many + 1])
            self.assertEqual(table.listed(), list(table))
            self.assertEqual(len(table), many + 1)
