import unittest
from itertools import permutations

from answersby.books import Book
from answersby.errors import NoFlag, NoName, NoWays
from answersby.names import OPERATIONS
from samples import NO_NAMES, STRANGE, EqualToAll, RefusesAll, misspelt

MENUS = {
    "truth": ("truth", "length"),
    "size": ("length",),
    "each": ("walk", "item"),
    "turned": ("back", "count"),
    "hash": ("hash",),
    "call": ("call",),
    "member": ("has", "walk", "item"),
    "like": ("own", "turned"),
    "unlike": ("own", "like", "turned", "turned_like"),
    "before": ("own", "turned"),
    "behind": ("own", "turned"),
    "grow": ("grow", "plus"),
}
FLAGS = ("bars_hash", "ends_same", "ends_true")


def told(book):
    """Everything that a book says, as plain values."""
    return [(operation, book[operation]) for operation in OPERATIONS], [getattr(book, word) for word in FLAGS]


class MadeBooksTest(unittest.TestCase):
    def test_full(self):
        for book in (Book(), Book.full(), Book().full()):
            self.assertEqual({operation: book[operation] for operation in OPERATIONS}, MENUS)
            for word in FLAGS:
                self.assertIs(getattr(book, word), True)

    def test_bare(self):
        for book in (Book.bare(), Book().bare()):
            self.assertEqual({op: book[op] for op in OPERATIONS}, {op: menu[:1] for op, menu in MENUS.items()})
            for word in FLAGS:
                self.assertIs(getattr(book, word), False)

    def test_made_books_are_new(self):
        for make, word in ((Book, "walk"), (Book.full, "walk"), (Book.bare, "walk")):
            first, second = make(), make()
            first["each"] = ("item",)
            first.ends_true = not first.ends_true
            self.assertEqual(second["each"][0], word)
            self.assertNotEqual(first.ends_true, second.ends_true)
            self.assertEqual(make(), second)

    def test_iterated(self):
        for book in (Book(), Book.bare()):
            book["truth"] = ()
            self.assertEqual(list(book), list(OPERATIONS))
            self.assertEqual(book.listed(), list(OPERATIONS))
            self.assertEqual(len(book), 12)

    def test_listed_is_new(self):
        book = Book()
        book.listed().clear()
        self.assertEqual(book.listed(), list(OPERATIONS))
        self.assertEqual(len(book), 12)


class WaysTest(unittest.TestCase):
    def test_all_orders_of_all_parts_of_the_menu(self):
        for operation, menu in MENUS.items():
            for many in range(len(menu) + 1):
                for ways in permutations(menu, many):
                    book = Book()
                    before = told(book)
                    book[operation] = ways
                    self.assertEqual(book[operation], ways)
                    expected = [(op, ways if op == operation else kept) for op, kept in before[0]]
                    self.assertEqual(told(book), (expected, before[1]))

    def refused(self, operation, ways):
        book = Book.bare()
        before = told(book)
        with self.assertRaises(NoWays) as caught:
            book[operation] = ways
        self.assertEqual(caught.exception.operation, operation)
        self.assertEqual(told(book), before)

    def test_no_ways_of_any_kind(self):
        for ways in NO_NAMES + ("truth", ["truth", "length"], ["truth"], {"truth"}, {"truth": 1}, iter(("truth",))):
            if not isinstance(ways, tuple) or ways:
                self.refused("truth", ways)

    def test_a_way_twice(self):
        for operation, menu in MENUS.items():
            for way in menu:
                self.refused(operation, (way, way))
        self.refused("member", ("has", "walk", "has"))
        self.refused("unlike", ("own", "like", "turned", "turned_like", "own"))

    def test_a_way_of_another_operation(self):
        every = sorted({way for menu in MENUS.values() for way in menu})
        for operation, menu in MENUS.items():
            for way in every:
                if way not in menu:
                    self.refused(operation, (way,))
                    self.refused(operation, menu + (way,))
            for way in misspelt(menu[0]):
                self.refused(operation, (way,))

    def test_another_thing_in_the_tuple(self):
        for thing in STRANGE + (1, True, ("has",), ["has"], EqualToAll(), RefusesAll()):
            self.refused("member", (thing,))
            self.refused("member", ("has", thing))
            self.refused("member", (thing, "has"))

    def test_no_operation(self):
        wrong = list(NO_NAMES) + ["length", "item", "walk", "back", "has", "plus", "step", "bars_hash"]
        for operation in OPERATIONS:
            wrong.extend(misspelt(operation))
        for value in wrong:
            book = Book()
            with self.assertRaises(NoName) as caught:
                book[value]
            self.assertIs(caught.exception.value, value)
            for ways in ((), ("truth",), None, RefusesAll()):
                with self.assertRaises(NoName) as caught:
                    book[value] = ways
                self.assertIs(caught.exception.value, value)
            self.assertEqual(told(book), told(Book()))


class FlagsTest(unittest.TestCase):
    def test_as_properties(self):
        for word in FLAGS:
            book = Book()
            for value in (False, True, False, False):
                setattr(book, word, value)
                self.assertEqual([getattr(book, other) for other in FLAGS], [w != word or value for w in FLAGS])

    def test_by_set_flag(self):
        for word in FLAGS:
            book = Book()
            for value in (False, True, False, False):
                self.assertIsNone(book.set_flag(word, value))
                self.assertEqual([getattr(book, other) for other in FLAGS], [w != word or value for w in FLAGS])

    def test_they_are_properties(self):
        for word in FLAGS:
            self.assertIsInstance(vars(Book)[word], property)

    def test_no_flag(self):
        for word in FLAGS:
            for value in STRANGE + (0, 1, -1, 2, 1.0, "True", "yes", [True]):
                for book in (Book(), Book.bare()):
                    before = told(book)
                    with self.assertRaises(NoFlag) as caught:
                        setattr(book, word, value)
                    self.assertIs(caught.exception.value, value)
                    with self.assertRaises(NoFlag) as caught:
                        book.set_flag(word, value)
                    self.assertIs(caught.exception.value, value)
                    self.assertEqual(told(book), before)

    def test_no_name_ahead_of_no_flag(self):
        wrong = list(NO_NAMES) + ["truth", "like", "hash", "twin", "listed", "_flags"]
        for word in FLAGS:
            wrong.extend(misspelt(word))
        for word in wrong:
            for value in (True, False, None, 1):
                book = Book()
                with self.assertRaises(NoName) as caught:
                    book.set_flag(word, value)
                self.assertIs(caught.exception.value, word)
                self.assertEqual(told(book), told(Book()))

    def test_arguments_by_name(self):
        book = Book()
        book.set_flag(value=False, word="ends_same")
        book.set_flag("ends_true", value=False)
        self.assertEqual([getattr(book, word) for word in FLAGS], [True, False, False])


class TwinsTest(unittest.TestCase):
    def test_twin_goes_on_by_itself(self):
        book = Book()
        book["unlike"] = ("turned", "own")
        book.ends_same = False
        twin = book.twin()
        self.assertIsNot(twin, book)
        self.assertEqual(told(twin), told(book))
        self.assertEqual(twin, book)
        before = told(book)
        twin["unlike"] = ()
        twin.bars_hash = False
        self.assertEqual(told(book), before)
        after = told(twin)
        book["each"] = ()
        book.ends_true = False
        self.assertEqual(told(twin), after)
        self.assertEqual(list(twin), list(OPERATIONS))

    def test_equal(self):
        self.assertEqual(Book(), Book.full())
        self.assertEqual(Book.bare(), Book.bare())
        self.assertNotEqual(Book(), Book.bare())
        for operation in OPERATIONS:
            other = Book()
            other[operation] = ()
            self.assertFalse(other == Book())
            self.assertTrue(other != Book())
            other[operation] = MENUS[operation]
            self.assertTrue(other == Book())
        for word in FLAGS:
            other = Book()
            other.set_flag(word, False)
            self.assertFalse(other == Book())
            other.set_flag(word, True)
            self.assertTrue(other == Book())

    def test_the_order_of_the_ways_counts(self):
        other = Book()
        other["like"] = ("turned", "own")
        self.assertNotEqual(other, Book())

    def test_equal_to_nothing_else(self):
        for value in (None, 1, "book", [], list(OPERATIONS), MENUS, object(), Book):
            self.assertIs(Book() == value, False)
            self.assertIs(Book() != value, True)
