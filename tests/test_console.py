import random
import unittest

from answersby.agreements import AGREEMENTS, disagreement
from answersby.alike import parting
from answersby.bodies import Body
from answersby.books import Book
from answersby.console import Console
from answersby.errors import NoBook, NoNote, OutOfStep, TooMany
from answersby.machines import machine_of, names_of
from answersby.names import METHODS, OPERATIONS, outcomes_of
from answersby.notes import read_table, write_body, write_table
from answersby.plays import Play
from answersby.scenes import Scene
from answersby.tables import Table
from oracle import chance_book, chance_entry, chance_table, crowded_scene
from samples import NO_NAMES
from scenery import book_of, many_kept

QUESTIONS = ("run truth", "names truth", "differs truth size", "agrees truth")


def lines_of(table):
    """Lines that make such a table, if its book is there."""
    lines = [f"class {name}" for name in table]
    lines += [" ".join(["bases", name, *table.bases(name)]) for name in table if table.bases(name)]
    for name in table:
        for method, entry in table.entries(name):
            told = f"body {write_body(entry)}" if isinstance(entry, Body) else entry
            lines.append(f"set {name} {method} {told}")
    return lines


class Checks(unittest.TestCase):
    def setUp(self):
        self.console = Console(Book())

    def run_all(self, *lines, wanted="ok"):
        for line in lines:
            self.assertEqual(self.console.run(line), wanted, line)

    def unchanged(self, wanted, *lines):
        """Each line has this answer, and changes nothing, also not what undo takes back."""
        note = write_table(self.console.table())
        self.run_all(*lines, wanted=wanted)
        self.assertEqual(write_table(self.console.table()), note)

    def of_scene(self, scene):
        """A console with the table and the scene of this one."""
        self.console = Console(scene.table().book())
        table = scene.table()
        # The classes stand in an order in which each one is behind its bases.
        self.run_all(*lines_of(table))
        self.run_all(" ".join(["scene", *scene.classes()]))
        self.assertEqual(self.console.table(), table)


class ChangesTest(Checks):
    def test_each_line(self):
        self.run_all("class a", "class b", "class c a b", "bases c b", "bases b a", "set a like native", "set b like blocked",
                     "set c like body not ask unlike self other", "set c hash body count 2", "clear b like", "clear b walk")
        wanted = Table(Book())
        wanted.add("a")
        wanted.add("b", "a")
        wanted.add("c", "b")
        wanted["a", "like"] = "native"
        wanted["c", "like"] = Body("like", ("not", ("ask", "unlike", "self", "other")))
        wanted["c", "hash"] = Body("hash", ("count", 2))
        self.assertEqual(self.console.table(), wanted)
        self.assertEqual(self.console.table().order("c"), ["c", "b", "a"])
        self.run_all("bases c")
        self.assertEqual(self.console.table().bases("c"), ())

    def test_errors(self):
        self.run_all("class a", "class b a", "class c b")
        self.unchanged("error", "class A", "class abcdefg", "class 1", "class a", "class z y", "class z a b", "class z a a", "class a a b",
                       "bases z", "bases z a", "bases a z", "bases a b", "bases a a", "bases c a b", "set z like native",
                       "set a likes native", "set a size blocked", "set z like body yes", "set z z native", "clear z like",
                       "clear a size", "clear a step", "clear A like", "order z", "order A", "scene z", "scene a z", "scene a b z")
        self.run_all("class d", "class e", "class f", "class g", "class h")
        self.unchanged("error", "class i", "class i a", "class h")

    def test_wrong_lines(self):
        self.run_all("class a", "set a like native")
        for word in ("class", "bases", "set", "clear", "order", "scene", "run", "names", "differs", "agrees"):
            self.unchanged("wrong", word, word + " ", " " + word)
        self.unchanged("wrong", "", " ", "  ", "what", "Class b", "class  b", "class b ", " class b", "class b  a", "add b", "book yes yes yes",
                       "ways size", "entry a like native", "classes b", "undo 1", "undo ", " undo", "undo undo", "Undo")
        self.unchanged("wrong", "set a", "set a like", "set a like ", "set a like natives", "set a like native native", "set a like None",
                       "set a like body", "set a like body ", "set a like body yes yes", "set a like body  yes", "set a like body yes ",
                       "set a like barred", "set a like blocked yes", "set a like yes", "set a walk body yes", "set a call body no",
                       "set a likes body yes", "set z zz body", "set a size body yes", "set a length body decline", "set a hash body count 5")
        self.unchanged("wrong", "clear a", "clear a like like", "clear a  like", "order a a", "order a ", "scene a a a a", "scene a  a",
                       "run  truth", "run truth ", "names truth size", "differs truth", "differs truth size each", "agrees size",
                       "agrees truths", "agrees truth truth", "agrees like", "agrees Truth", "agrees  truth")
        self.run_all("undo", "undo")
        self.run_all("undo", wanted="nothing")

    def test_order(self):
        self.run_all("class a", "class b a", "class c a", "class d b c")
        self.assertEqual(self.console.run("order d"), "d b c a")
        self.assertEqual(self.console.run("order a"), "a")
        self.run_all("bases d c b")
        self.assertEqual(self.console.run("order d"), "d c b a")

    def test_the_book_and_the_table_are_twins(self):
        book = Book()
        console = Console(book)
        book["truth"] = ()
        book.ends_true = False
        console.run("class a")
        console.run("scene a")
        self.assertEqual(console.run("run truth"), "yes")
        table = console.table()
        table.add("b")
        table.set_book(book)
        table["a", "truth"] = "native"
        self.assertEqual(console.run("run truth"), "yes")
        self.assertEqual((console.table().listed(), console.table().book()), (["a"], Book()))
        self.assertEqual(write_table(Console(book=Book.bare()).table()), write_table(Table(Book.bare())))


class UndoTest(Checks):
    def test_nothing(self):
        self.run_all("undo", "undo", wanted="nothing")
        self.run_all("class a", "undo")
        self.run_all("undo", wanted="nothing")
        self.run_all("class a", "undo")

    def test_step_by_step(self):
        lines = ["class a", "class b", "set a like native", "bases b a", "clear a like", "clear a like", "set b like body yes",
                 "set b like body yes", "bases b", "class c b a", "set c truth blocked", "bases b", "bases c a"]
        notes = []
        for line in lines:
            notes.append(write_table(self.console.table()))
            self.run_all(line)
            self.unchanged("error", "class a", "set z like native", "bases a z")
            self.unchanged("wrong", "set a like", "clear", "")
            self.unchanged("no scene", "run truth")
        for note in notes[::-1]:
            self.run_all("undo")
            self.assertEqual(write_table(self.console.table()), note)
        self.run_all("undo", wanted="nothing")

    def test_lines_that_ask_are_not_taken_back(self):
        self.run_all("class a", "class b", "scene a b")
        self.assertEqual(self.console.run("order a"), "a")
        self.assertEqual(self.console.run("run truth"), "yes")
        self.run_all("undo")
        self.assertEqual(self.console.table().listed(), ["a"])
        # The scene is still that of a and b, and b is not there.
        self.run_all(*QUESTIONS, wanted="error")
        self.run_all("class b", "set b truth native")
        self.assertEqual(self.console.run("run truth"), "yes")
        self.run_all("scene b")
        self.assertEqual(self.console.run("run truth"), "waits 0 truth b")
        self.run_all("undo")
        self.assertEqual(self.console.run("run truth"), "yes")

    def test_lines_behind_an_undo(self):
        self.run_all("class a", "class b", "undo", "class c", "undo", "undo", "class d")
        self.assertEqual(self.console.table().listed(), ["d"])
        self.run_all("undo")
        self.run_all("undo", wanted="nothing")


class SceneTest(Checks):
    def test_one_two_and_three_names(self):
        self.run_all("class a", "class b", "class c", "set a item native", "set a like native", "set b like native", "set c like native")
        for line, wanted in (("scene a", "a"), ("scene a b", "a"), ("scene a b c", "c"), ("scene a a b", "b")):
            self.run_all(line)
            self.assertEqual(self.console.run("run member other"), f"waits 2 like {wanted}")
        for line, wanted in (("scene a", "a"), ("scene a b", "b"), ("scene a b c", "b")):
            self.run_all(line)
            self.assertEqual(self.console.run("run like decline"), f"waits 1 like {wanted}")

    def test_made_anew_for_each_line(self):
        self.run_all("class a", "class b", "scene b")
        for line, answer in (("set b truth native", "waits 0 truth b"), ("clear b truth", "yes"), ("set a truth native", "yes"),
                             ("bases b a", "waits 0 truth a"), ("set a truth body no", "no"), ("undo", "waits 0 truth a"),
                             ("undo", "yes"), ("undo", "yes"), ("undo", "waits 0 truth b"), ("undo", "yes"), ("undo", "error"),
                             ("class b", "yes")):
            self.run_all(line)
            self.assertEqual(self.console.run("run truth"), answer, line)

    def test_no_scene(self):
        self.unchanged("no scene", *QUESTIONS, "run what", "names what", "differs what ever", "run truth 9", "run truth yes yes")
        self.run_all("class a")
        self.unchanged("no scene", *QUESTIONS)
        self.unchanged("error", "scene b", "scene a b", "scene a a A")
        self.unchanged("no scene", *QUESTIONS)
        self.unchanged("wrong", "agrees what", "run", "names", "differs truth", "run truth ", "agrees truth length")
        self.run_all("scene a")
        self.unchanged("error", "scene b")
        self.assertEqual(self.console.run("run truth"), "yes")


class RunTest(Checks):
    def test_ends(self):
        self.run_all("class a", "class b", "scene a b")
        for line, answer in (
            ("run truth", "yes"), ("run like", "no"), ("run unlike", "yes"), ("run size", "refused size"), ("run call", "refused call"),
            ("run member", "refused member"), ("run behind", "refused behind"),
        ):
            self.assertEqual(self.console.run(line), answer)
        self.run_all("set a like native", "set a length native", "set a walk native", "set a call native", "set a grow native",
                     "set b unlike body ask unlike other self", "set a unlike body ask unlike other self", "set a before blocked",
                     "set b behind body ask truth self", "set a behind body raise", "set a has body ask size self")
        for line, answer in (
            ("run hash", "barred a"), ("run size 0", "count 0"), ("run size 4", "count 4"), ("run truth 0", "no"), ("run truth 3", "yes"),
            ("run size wrong", "wrong length"), ("run size raise", "raised length"), ("run each walker out", "done"),
            ("run each walker same other raise", "raised step"), ("run call got", "got"), ("run grow got", "got"),
            ("run unlike", "loop 2"), ("run before", "refused before"), ("run behind", "raised behind"), ("run member 2", "wrong has"),
            ("run member", "waits 0 length a"), ("run each walker", "waits 0 step a"), ("run each", "waits 0 walk a"),
            ("run like decline", "no"), ("run like", "waits 0 like a"),
        ):
            self.assertEqual(self.console.run(line), answer, line)

    def test_deep(self):
        self.run_all("class a", "class b", "class c", "set a walk native", "set b walk native", "set c like body ask member other self",
                     "scene a b c")
        self.assertEqual(self.console.run("run member walker other"), "waits 1 walk b")
        self.assertEqual(self.console.run("run member walker other walker"), "deep")

    def test_loops(self):
        self.run_all("class a", "set a like body ask unlike self other", "set a unlike body ask like other self", "scene a")
        self.assertEqual(self.console.run("run like"), "loop 4")
        self.run_all("set a unlike body ask like self other")
        self.assertEqual(self.console.run("run like"), "loop 2")
        self.run_all("set a like body ask like self other")
        self.assertEqual(self.console.run("run like"), "loop 1")
        self.assertEqual(self.console.run("run unlike"), "loop 1")

    def test_outcomes_that_do_not_fit(self):
        self.run_all("class a", "set a length native", "set a like native", "scene a")
        self.unchanged("error", "run what", "run length", "run size 5", "run size yes", "run size 00", "run size -1", "run size 0 0",
                       "run like 0", "run like yes yes", "run like maybe", "run each out", "run size 0 yes", "run Size 0")

    def test_beside_plays(self):
        for seed in range(80):
            chance = random.Random(seed)
            table = chance_table(chance, chance.randint(1, 4), bodies=seed % 4)
            scene = Scene(table, *[chance.choice(table.listed()) for _ in range(3)])
            self.of_scene(scene)
            for operation in OPERATIONS:
                machine = machine_of(scene, operation)
                walk, script = machine.walk(), []
                while walk.call() is not None and len(script) < 6:
                    play = Play(scene, operation, script)
                    operand, method, owner, _ = play.waits()
                    line = " ".join(["run", operation, *[str(outcome) for outcome in script]])
                    self.assertEqual(self.console.run(line), f"waits {operand} {method} {owner}")
                    self.assertEqual(self.console.run(line + " what"), "error")
                    script.append(chance.choice(outcomes_of(method)))
                    walk(script[-1])
                line = " ".join(["run", operation, *[str(outcome) for outcome in script]])
                end = Play(scene, operation, script).end()
                if end is not None:
                    words = ["loop", str(len(end[1]))] if end[0] == "loop" else [str(word) for word in end]
                    self.assertEqual(self.console.run(line), " ".join(words))
                    self.assertEqual(self.console.run(line + " yes"), "error")


class AskTest(Checks):
    def test_names(self):
        self.run_all("class a", "class b", "scene a b")
        self.assertEqual(self.console.run("names like"), "0 like 1 like")
        self.assertEqual(self.console.run("names hash"), "0 like 0 hash")
        self.run_all("set a like body yes")
        self.assertEqual(self.console.run("names like"), "0 like")
        self.unchanged("error", "names length", "names what", "names Truth")
        self.console = Console(book_of({"size": ()}))
        self.run_all("class a", "scene a")
        self.assertEqual(self.console.run("names size"), "")

    def test_differs(self):
        self.run_all("class a", "class b", "scene a b", "set a like native")
        self.assertEqual(self.console.run("differs like unlike"), "parts yes")
        self.assertEqual(self.console.run("differs like like"), "alike")
        self.assertEqual(self.console.run("differs before behind"), "parts")
        self.run_all("set a length native")
        self.assertEqual(self.console.run("differs truth size"), "parts 0")
        self.run_all("set a truth body if ask size self yes no")
        self.assertEqual(self.console.run("differs truth size"), "parts 0")
        self.unchanged("error", "differs truth what", "differs what truth", "differs length length", "differs truth Size")

    def test_agrees(self):
        self.run_all("class a", "class b", "scene a b")
        for line, answer in (
            ("set a length native", ("yes", "no", "yes", "yes", "yes")), ("set a truth native", ("no", "no", "yes", "yes", "yes")),
            ("set a unlike native", ("no", "no", "no", "yes", "yes")), ("set a behind native", ("no", "no", "no", "yes", "yes")),
            ("set b before native", ("no", "no", "no", "no", "yes")), ("set a has native", ("no", "no", "no", "no", "no")),
        ):
            self.run_all(line)
            self.assertEqual(tuple(self.console.run(f"agrees {name}") for name in AGREEMENTS), answer)

    def test_open(self):
        self.run_all("class a", "class b", "set a has body ask member other self", "set a walk native", "set b walk native", "scene a b")
        self.assertEqual(self.console.run("agrees member"), "open")
        self.of_scene(many_kept())
        self.assertEqual(self.console.run("agrees unlike"), "open")
        self.of_scene(crowded_scene(0))
        self.assertEqual(self.console.run("agrees unlike"), "open")
        self.unchanged("error", "names unlike", "differs like unlike", "differs size unlike", "differs unlike size")
        self.run_all("bases a")
        self.assertEqual(self.console.run("names call"), "0 call")

    def test_beside_functions(self):
        for seed in range(40):
            chance = random.Random(seed)
            table = chance_table(chance, chance.randint(1, 4), bodies=seed % 5, rooted=seed % 2 == 0)
            scene = Scene(table, *[chance.choice(table.listed()) for _ in range(3)])
            self.of_scene(scene)
            for operation in OPERATIONS:
                names = [f"{operand} {method}" for operand, method in names_of(scene, operation)]
                self.assertEqual(self.console.run(f"names {operation}"), " ".join(names))
                other = chance.choice(OPERATIONS)
                script = parting(machine_of(scene, operation), machine_of(scene, other))
                wanted = "alike" if script is None else " ".join(["parts", *[str(outcome) for outcome in script]])
                self.assertEqual(self.console.run(f"differs {operation} {other}"), wanted)
            for name in AGREEMENTS:
                try:
                    wanted = "yes" if disagreement(scene, name) is None else "no"
                except (OutOfStep, TooMany):
                    wanted = "open"
                self.assertEqual(self.console.run(f"agrees {name}"), wanted)


class AnyLineTest(Checks):
    def test_no_text(self):
        for value in NO_NAMES + (b"undo", ["undo"], ("undo",)):
            if not isinstance(value, str):
                with self.assertRaises(NoNote) as caught:
                    self.console.run(value)
                self.assertIsNone(caught.exception.line)
        self.assertEqual(self.console.run(line="class a"), "ok")

    def test_no_book(self):
        for value in NO_NAMES + (Table(Book()), Book, Console):
            with self.assertRaises(NoBook) as caught:
                Console(value)
            self.assertIs(caught.exception.value, value)

    def test_lines_by_chance(self):
        """Every answer is one of those that there are; the table changes with ok alone, and undo leads back to the start."""
        words = ["a", "b", "c", "like", "truth", "length", "native", "blocked", "body", "yes", "not", "what", "", "0", "size"]
        firsts = ["class", "bases", "set", "clear", "undo", "order", "scene", "run", "names", "differs", "agrees", "sets"]
        answers = {}
        for seed in range(60):
            chance = random.Random(seed)
            book = chance_book(chance)
            console, made = Console(book), 0
            for _ in range(80):
                first = chance.choice(firsts)
                told = chance.choices(words, k=chance.choice((0, 1, 1, 2, 2, 3, 4)))
                if chance.random() < 0.5:
                    told = [chance.choice("abc"), chance.choice(words[3:6]), chance.choice(words[6:8])][:len(told)]
                line = " ".join([first, *told])
                before = write_table(console.table())
                answer = console.run(line)
                behind = write_table(console.table())
                if answer == "ok":
                    made += {"class": 1, "bases": 1, "set": 1, "clear": 1, "undo": -1}.get(first, 0)
                if answer != "ok" or first == "scene":
                    self.assertEqual(before, behind)
                answers.setdefault(first, set()).add(answer.split(" ")[0])
            for _ in range(made):
                self.assertEqual(console.run("undo"), "ok")
            self.assertEqual(console.run("undo"), "nothing")
            self.assertEqual(console.table(), Table(book))
        for first in ("class", "bases", "set", "clear", "scene"):
            self.assertEqual(answers[first], {"ok", "wrong", "error"})
        self.assertEqual(answers["undo"], {"ok", "nothing", "wrong"})
        self.assertEqual(answers["sets"], {"wrong"})
        self.assertLessEqual(answers["agrees"], {"yes", "no", "open", "wrong", "no", "error"})

    def test_a_table_by_its_note(self):
        """A console makes every table whose book it has; the note tells the same table."""
        for seed in range(60):
            chance = random.Random(seed)
            table = chance_table(chance, chance.randint(0, 8), bodies=seed % 6)
            self.console = Console(table.book())
            self.run_all(*lines_of(table))
            self.assertEqual(self.console.table(), read_table(write_table(table)))

    def test_each_method(self):
        self.run_all("class a")
        chance = random.Random(3)
        for method in METHODS:
            entry = chance_entry(chance, method, ("like", "truth", "hash"))
            told = f"body {write_body(entry)}" if isinstance(entry, Body) else entry
            self.run_all(f"set a {method} {told}")
            self.assertEqual(self.console.table()["a", method], entry)
            self.run_all(f"clear a {method}")
        self.assertEqual(self.console.table().entries("a"), [])
