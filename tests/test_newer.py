import itertools
import random
import unittest

from answersby.alike import parting
from answersby.bodies import Body
from answersby.books import MENUS, Book
from answersby.edits import changes
from answersby.errors import NoBook, NoEntry, NoName, NoScene, TooMany
from answersby.machines import machine_of
from answersby.names import METHODS, OPERATIONS
from answersby.newer import apart, book_changes, idle_ways, spread, turning_books, with_book
from answersby.scenes import Scene
from oracle import chance_book, chance_scene, chance_table, crowded_scene
from samples import NO_NAMES, EqualToAll, RefusesAll
from scenery import book_of, one, three

NO_BOOKS = NO_NAMES + (one(), one().table(), Book, "full")
NO_SCENES = NO_NAMES + (one().table(), Scene, Book())
PAIRS = [(operand, method) for operand in (0, 1, 2) for method in METHODS]
WORDS = ("native", "blocked")


def lists_of(many, pairs=PAIRS):
    """All lists of so many entries, the smaller ones first."""
    rows = []
    for chosen in itertools.combinations(pairs, many):
        for words in itertools.product(WORDS, repeat=many):
            rows.append([(*pair, word) for pair, word in zip(chosen, words)])
    return sorted(rows, key=lambda row: [(operand, METHODS.index(method), WORDS.index(word)) for operand, method, word in row])


def differ(first, second, operation, entries):
    return machine_of(spread(entries, first), operation) != machine_of(spread(entries, second), operation)


class BookChangesTest(unittest.TestCase):
    def test_with_book(self):
        scene, book = three({(0, "walk"): "native"}), Book.bare()
        table = scene.table()
        later = with_book(scene, book)
        self.assertEqual((later.classes(), later.table().book()), (scene.classes(), Book.bare()))
        wanted = scene.table()
        wanted.set_book(Book.bare())
        self.assertEqual(later.table(), wanted)
        book["each"] = ()
        self.assertEqual((later.ways("each"), scene.table()), (("walk",), table))
        self.assertEqual(with_book(book=Book.bare(), scene=scene).table(), wanted)

    def test_by_hand(self):
        scene = three({(0, "length"): "native", (0, "item"): "native"})
        self.assertEqual(book_changes(scene, Book()), [])
        wanted = [("truth", []), ("each", []), ("turned", []), ("member", []), ("like", []), ("unlike", [])]
        self.assertEqual(book_changes(scene, Book.bare()), wanted)
        self.assertEqual(book_changes(book=book_of({"size": ()}), scene=scene), [("size", [])])
        scene = three({(0, "like"): "native", (0, "hash"): "native"})
        self.assertEqual(book_changes(scene, book_of(ends_same=False)), [("like", ["decline"]), ("unlike", ["decline"])])

    def test_by_chance(self):
        met = set()
        for seed in range(60):
            chance = random.Random(seed)
            scene, book = chance_scene(seed, bodies=seed % 4), chance_book(chance)
            table = scene.table()
            found = book_changes(scene, book)
            wanted = []
            for operation in OPERATIONS:
                before, behind = machine_of(scene, operation), machine_of(with_book(scene, book), operation)
                if before != behind:
                    wanted.append((operation, parting(before, behind)))
            self.assertEqual(found, wanted)
            self.assertEqual(found, changes(scene, [("book", book)]))
            self.assertEqual(scene.table(), table)
            met.add(len(found))
        self.assertGreater(len(met), 4)

    def test_errors(self):
        for function in (with_book, book_changes):
            for value in NO_SCENES:
                with self.assertRaises(NoScene) as caught:
                    function(value, None)
                self.assertIs(caught.exception.value, value)
            for value in NO_BOOKS:
                with self.assertRaises(NoBook) as caught:
                    function(crowded_scene(0), value)
                self.assertIs(caught.exception.value, value)
        with self.assertRaises(TooMany) as caught:
            book_changes(crowded_scene(0), Book())
        self.assertEqual(caught.exception.limit, 400)


class IdleWaysTest(unittest.TestCase):
    def test_by_hand(self):
        self.assertEqual(idle_ways(three({(0, "truth"): "native"}), "truth"), ("length",))
        self.assertEqual(idle_ways(three({(0, "length"): "native"}), "truth"), ("truth",))
        self.assertEqual(idle_ways(three(), "truth"), ("truth", "length"))
        self.assertEqual(idle_ways(three({(0, "walk"): "native"}), "member"), ("has", "item"))
        book = book_of({"member": ("item", "walk", "has")})
        self.assertEqual(idle_ways(three({(0, "walk"): "native"}, book), "member"), ("item", "has"))
        self.assertEqual(idle_ways(operation="size", scene=three((), book_of({"size": ()}))), ())
        self.assertEqual(idle_ways(three({(0, "like"): "native"}), "unlike"), ("own", "turned", "turned_like"))

    def test_each_alone(self):
        """Both ways give the same end here, so each of them alone may be missing, but not both."""
        scene = three({(0, "grow"): "blocked", (0, "plus"): "blocked"})
        self.assertEqual(idle_ways(scene, "grow"), ("grow", "plus"))
        book = book_of({"grow": ()})
        self.assertEqual(machine_of(with_book(scene, book), "grow"), machine_of(scene, "grow"))
        scene = three({(0, "truth"): Body("truth", ("yes",)), (0, "length"): Body("length", ("count", 3))})
        self.assertEqual(idle_ways(scene, "truth"), ("truth", "length"))
        scene = with_book(scene, book_of(ends_true=False))
        self.assertEqual(idle_ways(scene, "truth"), ("truth", "length"))
        self.assertNotEqual(machine_of(with_book(scene, book_of({"truth": ()}, ends_true=False)), "truth"),
                            machine_of(scene, "truth"))

    def test_a_body_asks_the_operation_again(self):
        """The way is missing wherever the operation runs."""
        body = Body("like", ("ask", "like", "other", "self"))
        scene = three({(0, "like"): body, (1, "like"): "native"})
        self.assertEqual(machine_of(scene, "like").play(["decline"])[0], ("loop", (("left", "like", 0, 1),)))
        self.assertEqual(idle_ways(scene, "like"), ())
        body = Body("like", ("not", ("ask", "unlike", "self", "other")))
        scene = three({(0, "like"): body, (0, "unlike"): "native"})
        self.assertEqual(idle_ways(scene, "unlike"), ("turned", "turned_like"))
        self.assertEqual(idle_ways(scene, "like"), ("turned",))

    def test_by_chance(self):
        met = set()
        for seed in range(60):
            scene = chance_scene(seed, bodies=seed % 5)
            for operation in OPERATIONS:
                wanted = []
                for way in scene.ways(operation):
                    book = scene.table().book()
                    book[operation] = tuple(other for other in book[operation] if other != way)
                    if machine_of(with_book(scene, book), operation) == machine_of(scene, operation):
                        wanted.append(way)
                self.assertEqual(idle_ways(scene, operation), tuple(wanted))
                met.add((len(wanted), len(scene.ways(operation))))
        self.assertGreater(len(met), 8)

    def test_errors(self):
        for value in NO_SCENES:
            with self.assertRaises(NoScene) as caught:
                idle_ways(value, "likes")
            self.assertIs(caught.exception.value, value)
        for value in NO_NAMES + ("length", "likes"):
            with self.assertRaises(NoName) as caught:
                idle_ways(crowded_scene(0), value)
            self.assertIs(caught.exception.value, value)
        with self.assertRaises(TooMany) as caught:
            idle_ways(crowded_scene(0), "unlike")
        self.assertEqual(caught.exception.limit, 400)


class TurningBooksTest(unittest.TestCase):
    def test_by_hand(self):
        scene = three({(0, "length"): "native"})
        full, bare, other = Book(), Book.bare(), book_of({"truth": ("length",)}, ends_true=False)
        self.assertEqual(turning_books(scene, "truth"), [])
        self.assertEqual(turning_books(operation="truth", scene=scene), [])
        self.assertEqual(turning_books(scene, "truth", bare), [])
        self.assertEqual(turning_books(scene, "truth", full, full), [])
        self.assertEqual(turning_books(scene, "truth", full, bare), [1])
        self.assertEqual(turning_books(scene, "truth", bare, full, other, full, bare, bare, full), [1, 4, 6])
        self.assertEqual(turning_books(scene, "size", full, bare, full), [])
        # The scene's own book does not count.
        self.assertEqual(turning_books(with_book(scene, bare), "truth", full, other), [])

    def test_by_chance(self):
        met = set()
        for seed in range(60):
            chance = random.Random(seed)
            scene = chance_scene(seed, bodies=seed % 3)
            books = [chance_book(chance) for _ in range(chance.randint(0, 4))]
            for operation in OPERATIONS:
                machines = [machine_of(with_book(scene, book), operation) for book in books]
                wanted = [at for at in range(1, len(books)) if machines[at] != machines[at - 1]]
                self.assertEqual(turning_books(scene, operation, *books), wanted)
                met.add(len(wanted))
        self.assertEqual(met, {0, 1, 2, 3})

    def test_errors(self):
        for value in NO_SCENES:
            with self.assertRaises(NoScene) as caught:
                turning_books(value, "likes", None)
            self.assertIs(caught.exception.value, value)
        for value in NO_NAMES + ("length", "likes"):
            with self.assertRaises(NoName) as caught:
                turning_books(crowded_scene(0), value, None)
            self.assertIs(caught.exception.value, value)
        for value in NO_BOOKS:
            for books in ((value,), (Book(), value, 3), (Book(), Book(), value)):
                with self.assertRaises(NoBook) as caught:
                    turning_books(crowded_scene(0), "unlike", *books)
                self.assertIs(caught.exception.value, value)
        with self.assertRaises(TooMany) as caught:
            turning_books(crowded_scene(0), "unlike", Book(), Book())
        self.assertEqual(caught.exception.limit, 400)


class ApartTest(unittest.TestCase):
    def test_none(self):
        for operation in OPERATIONS:
            self.assertIsNone(apart(Book(), Book.full(), operation))
            self.assertIsNone(apart(Book.bare(), Book.bare(), operation))
        # Behind a length alone, no other way of truth is there; the flag tells nothing of like.
        self.assertIsNone(apart(Book(), book_of({"truth": ()}, ends_true=False), "like"))
        self.assertIsNone(apart(Book(), book_of({"like": ()}, ends_same=False), "hash"))
        self.assertIsNone(apart(Book(), book_of(bars_hash=False), "like"))
        self.assertIsNone(apart(book_of({"hash": ()}), book_of({"hash": ()}, bars_hash=False), "hash"))

    def test_ways_that_are_never_come_to(self):
        """A like of the items is asked only if member goes through its items."""
        book, other = book_of({"member": ("has",)}), book_of({"member": ("has",), "like": ()}, ends_same=False)
        self.assertIsNone(apart(book, other, "member"))
        self.assertIsNone(apart(book_of({"each": ()}), book_of({"each": (), "size": (), "call": ()}), "each"))

    def test_flags(self):
        self.assertEqual(apart(Book(), book_of(ends_true=False), "truth"), [])
        self.assertEqual(apart(Book(), book_of(ends_same=False), "like"), [])
        self.assertEqual(apart(Book(), book_of(ends_same=False), "unlike"), [])
        self.assertEqual(apart(Book(), book_of(ends_same=False), "member"), [(0, "item", "native")])
        self.assertEqual(apart(Book(), book_of(bars_hash=False), "hash"), [(0, "like", "native")])

    def test_ways_and_their_order(self):
        self.assertEqual(apart(Book(), book_of({"truth": ("length", "truth")}), "truth"),
                         [(0, "truth", "native"), (0, "length", "native")])
        self.assertEqual(apart(Book(), book_of({"each": ("item", "walk")}), "each"),
                         [(0, "item", "native"), (0, "walk", "native")])
        self.assertEqual(apart(Book(), book_of({"size": ()}), "size"), [(0, "length", "native")])
        self.assertEqual(apart(Book(), book_of({"before": ("own",)}), "before"), [(1, "behind", "native")])
        self.assertEqual(apart(Book(), book_of({"like": ("turned", "own")}), "like"),
                         [(0, "like", "native"), (1, "like", "native")])
        self.assertEqual(apart(Book(), book_of({"like": ("turned", "own")}), "member"),
                         [(0, "item", "native"), (1, "like", "native"), (2, "like", "native")])
        self.assertEqual(apart(Book(), book_of({"turned": ("back",)}), "turned"), [(0, "length", "native")])
        self.assertEqual(apart(book_of({"call": ()}), Book(), "call"), [(0, "call", "native")])

    def test_a_blocked_entry(self):
        """Native would be less, but both orders of the ways come to the same call then."""
        first = book_of({"unlike": ("own", "turned")})
        second = book_of({"unlike": ("own",)})
        self.assertEqual(apart(first, second, "unlike"), [(1, "unlike", "native")])
        bars = book_of({"grow": ("grow",)})
        self.assertEqual(apart(bars, Book(), "grow"), [(0, "plus", "native")])

    def test_the_smallest_of_all(self):
        """Beside a search through all lists of up to two entries."""
        shorter = [lists_of(many) for many in (0, 1)]
        for seed in range(12):
            chance = random.Random(seed)
            first, second = chance_book(chance), chance_book(chance)
            for operation in OPERATIONS:
                found = apart(first, second, operation)
                for many, lists in enumerate(shorter):
                    wanted = next((row for row in lists if differ(first, second, operation, row)), None)
                    if wanted is not None:
                        self.assertEqual(found, wanted)
                        break
                else:
                    self.assertTrue(found is None or len(found) > 1)

    def test_the_smallest_of_two(self):
        methods = {"truth": (0, 1), "each": (2, 3), "like": (6,), "grow": (11, 12), "before": (8, 9), "turned": (1, 2, 4)}
        tried = 0
        for seed in range(60):
            chance = random.Random(seed)
            first, second = chance_book(chance), chance_book(chance)
            for operation, numbers in methods.items():
                pairs = [(operand, METHODS[number]) for operand in (0, 1, 2) for number in numbers]
                found = apart(first, second, operation)
                rows = [row for many in (0, 1, 2) for row in lists_of(many, pairs)]
                wanted = next((row for row in rows if differ(first, second, operation, row)), None)
                if wanted is not None or operation != "turned":
                    self.assertEqual(found, wanted)
                    tried += wanted is not None and len(wanted) == 2
        self.assertGreater(tried, 10)

    def test_on_tables_without_bodies(self):
        """Where the books do the same, they do so on tables made by chance."""
        met = 0
        for seed in range(100):
            chance = random.Random(seed)
            first, second = chance_book(chance), chance_book(chance)
            if seed % 2:
                operation = chance.choice(OPERATIONS)
                second = first.twin()
                second[operation] = tuple(chance.sample(MENUS[operation], len(MENUS[operation])))
            same = [operation for operation in OPERATIONS if apart(first, second, operation) is None]
            for _ in range(3):
                table = chance_table(chance, chance.randint(1, 4), bodies=0)
                scene = Scene(table, *[chance.choice(table.listed()) for _ in range(3)])
                for operation in same:
                    one_machine = machine_of(with_book(scene, first), operation)
                    self.assertEqual(one_machine, machine_of(with_book(scene, second), operation))
                    met += 1
        self.assertGreater(met, 500)

    def test_the_machines_differ_there(self):
        for seed in range(50):
            chance = random.Random(seed)
            first, second = chance_book(chance), chance_book(chance)
            twins = first.twin(), second.twin()
            for operation in OPERATIONS:
                entries = apart(operation=operation, second=second, first=first)
                if entries is not None:
                    self.assertTrue(differ(first, second, operation, entries))
                self.assertEqual(apart(second, first, operation), entries)
            self.assertEqual((first, second), twins)

    def test_errors(self):
        for value in NO_BOOKS:
            for first, second in ((value, 3), (value, Book()), (Book(), value)):
                with self.assertRaises(NoBook) as caught:
                    apart(first, second, "likes")
                self.assertIs(caught.exception.value, value)
        for value in NO_NAMES + ("length", "likes"):
            with self.assertRaises(NoName) as caught:
                apart(Book(), Book.bare(), value)
            self.assertIs(caught.exception.value, value)


class SpreadTest(unittest.TestCase):
    def test_the_scene(self):
        entries = [(0, "truth", "native"), (0, "call", "blocked"), (1, "length", "native"), (2, "like", "native")]
        scene = spread(entries, Book.bare())
        self.assertEqual(scene.classes(), ("left", "right", "item"))
        table = scene.table()
        self.assertEqual((table.listed(), table.book()), (["left", "right", "item"], Book.bare()))
        self.assertEqual([table.bases(name) for name in table], [(), (), ()])
        self.assertEqual(table.entries("left"), [("truth", "native"), ("call", "blocked")])
        self.assertEqual(table.entries("right"), [("length", "native")])
        self.assertEqual(table.entries("item"), [("like", "native")])
        self.assertEqual(len(entries), 4)
        self.assertEqual(spread(book=Book(), entries=[]).table(), three().table())

    def test_every_list_in_its_order(self):
        for many in (0, 1, 2):
            for row in lists_of(many)[::7]:
                table = spread(row, Book()).table()
                found = [(at, method, entry) for at, name in enumerate(table) for method, entry in table.entries(name)]
                self.assertEqual(found, row)
        whole = [(*pair, "native") for pair in PAIRS]
        self.assertEqual([len(spread(whole, Book()).table().entries(name)) for name in ("left", "right", "item")], [14] * 3)

    def no_entries(self, value):
        for book in (Book(), None):
            with self.assertRaises(NoEntry) as caught:
                spread(value, book)
            self.assertIsNone(caught.exception.method)

    def test_no_list(self):
        entry = (0, "truth", "native")
        for value in NO_NAMES + ((entry,), {entry: 0}, entry, ()):
            if not isinstance(value, list) or value:
                self.no_entries(value)

    def test_wrong_items(self):
        first = (0, "truth", "native")
        wrong = [value for value in NO_NAMES] + [
            (), (1,), (1, "truth"), (1, "truth", "native", None), [1, "truth", "native"], "abc",
            (3, "truth", "native"), (-1, "truth", "native"), (True, "truth", "native"), ("1", "truth", "native"),
            (None, "truth", "native"), (EqualToAll(), "truth", "native"), (1, "size", "native"), (1, None, "native"),
            (1, RefusesAll(), "native"), (1, "truth", None), (1, "truth", "barred"), (1, "truth", True),
            (1, "like", Body("like", ("yes",))), (1, "truth", EqualToAll()),
        ]
        for value in wrong:
            for entries in ([value], [first, value], [first, value, (2, "truth", "native")], [value, first]):
                self.no_entries(entries)

    def test_wrong_orders(self):
        for entries in (
            [(0, "truth", "native"), (0, "truth", "native")], [(0, "truth", "native"), (0, "truth", "blocked")],
            [(0, "length", "native"), (0, "truth", "native")], [(1, "truth", "native"), (0, "length", "native")],
            [(2, "call", "native"), (2, "plus", "native")], [(0, "walk", "native"), (0, "item", "native")],
            [(0, "truth", "native"), (1, "truth", "native"), (1, "truth", "native")],
        ):
            self.no_entries(entries)

    def test_no_book(self):
        for value in NO_BOOKS:
            with self.assertRaises(NoBook) as caught:
                spread([(0, "truth", "native")], value)
            self.assertIs(caught.exception.value, value)
