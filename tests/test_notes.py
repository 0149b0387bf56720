import random
import unittest

from answersby.bodies import Body
from answersby.books import Book
from answersby.errors import NoName, NoNote, NoTable
from answersby.names import METHODS, kind_of, may_decline, takes_other
from answersby.notes import read_body, read_table, write_body, write_table
from answersby.tables import Table
from oracle import chance_body, chance_table
from samples import NO_NAMES
from scenery import book_of, one

FLAGS = "book yes yes yes\n"
BODIED = tuple(method for method in METHODS if kind_of(method) in ("flag", "count"))
LONG = ("if", ("if", ("ask", "unlike", "self", "other"), ("ask", "before", "other", "self"), ("ask", "behind", "self", "other")),
        ("if", ("ask", "member", "self", "other"), ("ask", "unlike", "other", "self"), ("ask", "like", "other", "self")),
        ("if", ("not", ("not", ("ask", "unlike", "self", "other"))), ("ask", "member", "other", "self"), ("further",)))
WORDS = ("yes", "no", "count", "raise", "decline", "further", "ask", "not", "if", "truth", "size", "hash", "member", "like",
         "unlike", "before", "behind", "self", "other", "0", "1", "2", "3", "4", "5", "truths", "", "walk", "10", "00")


def plain_read(method, words):
    """The body by the grammar, read from the left to the right; None if there is none."""
    def part(tail, depth):
        if not words or depth > 6:
            raise ValueError
        nodes[0] += 1
        word = words.pop(0)
        if word in ("yes", "no", "raise"):
            return (word,)
        if word == "further" and tail or word == "decline" and tail and may_decline(method):
            return (word,)
        if word == "count":
            return word, {"0": 0, "1": 1, "2": 2, "3": 3, "4": 4}[words.pop(0)]
        if word == "not":
            return word, part(False, depth + 1)
        if word == "if":
            return word, part(False, depth + 1), part(tail, depth + 1), part(tail, depth + 1)
        if word == "ask":
            operation, *roles = words.pop(0), words.pop(0)
            if operation in ("member", "like", "unlike", "before", "behind"):
                roles.append(words.pop(0))
                if sorted(roles) == ["other", "self"] and takes_other(method):
                    return word, operation, *roles
            elif operation in ("truth", "size", "hash") and roles[0] in ("self", "other")[:1 + takes_other(method)]:
                return word, operation, *roles
        raise ValueError

    nodes = [0]
    words = list(words)
    try:
        expression = part(True, 1)
    except (ValueError, IndexError, KeyError):
        return None
    return None if words or nodes[0] > 16 else Body(method, expression)


class BodyTest(unittest.TestCase):
    def both(self, method, expression, text):
        body = Body(method, expression)
        self.assertEqual(write_body(body), text)
        self.assertEqual(read_body(method, text), body)

    def test_the_example(self):
        expression = ("if", ("ask", "truth", "self"), ("no",), ("count", 3))
        self.both("length", expression, "if ask truth self no count 3")

    def test_all_words(self):
        for method in BODIED:
            self.both(method, ("yes",), "yes")
            self.both(method, ("no",), "no")
            self.both(method, ("raise",), "raise")
            self.both(method, ("further",), "further")
            for number in range(5):
                self.both(method, ("count", number), f"count {number}")
            if may_decline(method):
                self.both(method, ("decline",), "decline")
            for operation in ("truth", "size", "hash"):
                self.both(method, ("ask", operation, "self"), f"ask {operation} self")
            self.both(method, ("not", ("not", ("yes",))), "not not yes")
            self.both(method, ("if", ("yes",), ("no",), ("further",)), "if yes no further")
            if takes_other(method):
                self.both(method, ("ask", "hash", "other"), "ask hash other")
                for operation in ("member", "like", "unlike", "before", "behind"):
                    self.both(method, ("ask", operation, "self", "other"), f"ask {operation} self other")
                    self.both(method, ("ask", operation, "other", "self"), f"ask {operation} other self")

    def test_the_longest(self):
        text = (
            "if if ask unlike self other ask before other self ask behind self other "
            "if ask member self other ask unlike other self ask like other self "
            "if not not ask unlike self other ask member other self further"
        )
        self.both("like", LONG, text)
        wide = ("if", *[("if", *[("ask", "unlike", "self", "other")] * 3)] * 3)
        self.both("before", wide, " ".join(["if", *["if", *["ask unlike self other"] * 3] * 3]))

    def test_by_chance(self):
        chance = random.Random(1)
        for _ in range(500):
            method = chance.choice(BODIED)
            body = chance_body(chance, method)
            self.assertEqual(read_body(method=method, text=write_body(body=body)), body)
            self.assertEqual(plain_read(method, write_body(body).split(" ")), body)

    def wrong(self, method, text):
        with self.assertRaises(NoNote) as caught:
            read_body(method, text)
        self.assertIsNone(caught.exception.line)

    def test_words_by_chance(self):
        """What is no text of a body is refused, and what is one is read: beside the grammar."""
        good = 0
        for seed in range(6000):
            chance = random.Random(seed)
            method = chance.choice(BODIED)
            words = write_body(chance_body(chance, chance.choice((method, "like")))).split(" ")
            for _ in range(chance.choice((0, 1, 1, 2))):
                at = chance.randrange(len(words) + 1)
                words[at:at + chance.choice((0, 1))] = chance.sample(WORDS, chance.choice((0, 1)))
            wanted = plain_read(method, words)
            if wanted is None:
                self.wrong(method, " ".join(words))
            else:
                good += 1
                self.assertEqual(read_body(method, " ".join(words)), wanted)
        self.assertGreater(good, 1000)

    def test_no_method(self):
        for value in NO_NAMES + ("size", "member", "walk", "item", "back", "grow", "plus", "call", "step"):
            for text in ("yes", None):
                with self.assertRaises(NoName) as caught:
                    read_body(value, text)
                self.assertIs(caught.exception.value, value)

    def test_wrong_texts(self):
        for text in (
            "", " ", "yes ", " yes", "yes yes", "not  yes", "not", "not yes no", "if yes no", "if yes no yes no", "count",
            "count 5", "count 10", "count 03", "count -1", "count +1", "count 1 ", "count one", "count 1 1", "ask", "ask like",
            "ask like self", "ask like self self", "ask truth self other", "ask truth", "ask length self", "ask each self",
            "ask grow self other", "not decline", "not further", "if further yes no", "Yes", "YES", "yes\n", "yes\tno", "(yes)",
            "decline further", "ask truth him", "maybe", "'yes'", "yes,",
        ):
            self.wrong("like", text)
        for text in ("decline", "if yes decline no", "ask truth other", "ask like self other"):
            self.wrong("truth", text)
        for text in ("decline", "if yes no decline"):
            self.wrong("has", text)

    def test_what_is_no_text(self):
        for value in NO_NAMES + (b"yes", ["yes"], ("yes",), Body("like", ("yes",))):
            self.wrong("like", value)

    def test_long_texts(self):
        for text in ("not " * 5 + "yes", "not " * 5 + "ask truth self", "if yes yes " * 5 + "yes"):
            read_body("like", text)
        for text in (
            "not " * 6 + "yes", "not " * 62 + "yes", "not " * 63 + "yes", "not " * 64 + "yes", "not " * 100000 + "yes", "yes " * 100000,
            " " * 100000, "a" * 1000000, "if " * 100000, "if yes " * 50000 + "no", "ask like self other " * 16,
            "count 3" + " 3" * 100000, "if yes yes " * 6 + "yes", "yes" + "\n" * 1000,
        ):
            self.wrong("like", text)


def whole():
    """A table with lines of all kinds, in which b stands behind its base c."""
    table = Table(book_of({"each": ("item",), "size": (), "unlike": ("like", "own")}, ends_same=False))
    for name in ("a", "b", "c", "top"):
        table.add(name)
    table.set_bases("b", "c", "a")
    table.set_bases("c", "top")
    table["b", "call"] = "native"
    table["b", "like"] = Body("like", ("if", ("ask", "truth", "other"), ("decline",), ("further",)))
    table["a", "hash"] = Body("hash", ("count", 0))
    table["a", "truth"] = "blocked"
    return table


NOTE = """\
book yes no yes
ways size
ways each item
ways unlike like own
class a
class b
class c
class top
bases b c a
bases c top
entry a truth blocked
entry a hash body count 0
entry b like body if ask truth other decline further
entry b call native
"""


class TableTest(unittest.TestCase):
    def same(self, table):
        note = write_table(table)
        read = read_table(note)
        self.assertEqual(read, table)
        self.assertEqual([read.order(name) for name in read], [table.order(name) for name in table])
        self.assertEqual([read.heirs(name) for name in read], [table.heirs(name) for name in table])
        self.assertEqual(write_table(table=read), note)
        return read

    def test_by_hand(self):
        self.assertEqual(write_table(whole()), NOTE)
        self.assertEqual(self.same(whole()).order("b"), ["b", "c", "top", "a"])

    def test_books(self):
        self.assertEqual(write_table(Table(Book())), FLAGS)
        self.assertEqual(write_table(Table(book_of(bars_hash=False))), "book no yes yes\n")
        self.assertEqual(write_table(Table(book_of(ends_same=False))), "book yes no yes\n")
        self.assertEqual(write_table(Table(book_of(ends_true=False))), "book yes yes no\n")
        bare = (
            "book no no no\nways truth truth\nways each walk\nways turned back\nways member has\nways like own\n"
            "ways unlike own\nways before own\nways behind own\nways grow grow\n"
        )
        self.assertEqual(write_table(Table(Book.bare())), bare)
        for book in (Book(), Book.bare(), book_of({"truth": ("length", "truth"), "grow": (), "call": ()})):
            self.same(Table(book))

    def test_bases_of_classes_that_stand_behind(self):
        table = Table(Book())
        for name in "abcdefgh":
            table.add(name)
        for name, bases in (("g", "h"), ("f", "gh"), ("e", ""), ("d", "fge"), ("a", "d"), ("b", "he")):
            table.set_bases(name, *bases)
        self.same(table)
        self.assertIn("bases b h e\nbases d f g e\n", write_table(table))

    def test_by_chance(self):
        for seed in range(300):
            chance = random.Random(seed)
            table = chance_table(chance, seed % 9, bodies=seed % 8)
            names = table.listed()
            for _ in range(seed % 4 if names else 0):
                try:
                    table.set_bases(chance.choice(names), *chance.sample(names, min(len(names), chance.randint(0, 3))))
                except LookupError:
                    pass
            self.same(table)

    def test_it_goes_on_by_itself(self):
        table = whole()
        read = read_table(text=write_table(table))
        read.set_bases("b", "a")
        read["top", "like"] = "native"
        read.set_book(Book())
        read.add("new", "b", "c")
        self.assertEqual(table, whole())
        self.assertEqual(read.order("new"), ["new", "b", "a", "c", "top"])
        again = read_table(NOTE)
        self.assertEqual(again, whole())
        again.set_bases("top", "a")
        self.assertEqual(again.order("c"), ["c", "top", "a"])

    def test_no_table(self):
        for value in NO_NAMES + (one(), Book(), NOTE):
            with self.assertRaises(NoTable) as caught:
                write_table(value)
            self.assertIs(caught.exception.value, value)


class ReadTableTest(unittest.TestCase):
    def wrong(self, line, text):
        with self.assertRaises(NoNote) as caught:
            read_table(text)
        self.assertEqual(caught.exception.line, line, text)

    def test_no_text(self):
        for value in NO_NAMES + (Table(Book()), FLAGS.encode(), [FLAGS], "book yes yes yes", "book yes yes yes\n ", NOTE[:-1]):
            if not isinstance(value, str) or not value.endswith("\n"):
                self.wrong(None, value)
        self.wrong(None, "")

    def lines(self, *wrong, before=(), after=("class zz", "what")):
        """Each of these lines is wrong behind the lines before it, also if more lines follow."""
        head = FLAGS + "".join(line + "\n" for line in before)
        read_table(head)
        for line in wrong:
            self.wrong(1 + len(before), head + line + "\n")
            self.wrong(1 + len(before), head + line + "\n" + "\n".join(after) + "\n")

    def test_the_first_line(self):
        for line in (
            "", " ", "book", "book yes", "book yes yes", "book yes yes yes yes", "book yes yes maybe", "book yes yes True",
            "Book yes yes yes", " book yes yes yes", "book  yes yes yes", "book yes yes yes ", "book yes yes Yes", "book yes yes",
            "class a", "ways size", "bases a a", "entry a truth native", "set a truth native", "book yes yes 1", "booky yes yes yes",
        ):
            self.wrong(0, line + "\n")
            self.wrong(0, line + "\n" + FLAGS)
        self.wrong(1, FLAGS + FLAGS)
        self.wrong(1, FLAGS + "book no no no\n")

    def test_other_words(self):
        self.lines("", " ", "note", "set a truth native", "Class a", "undo", "class", "ways", "bases", "entry", "book", "a b c")

    def test_ways(self):
        self.lines(
            "ways truth truth length", "ways size length", "ways each walk item", "ways like own turned", "ways sizes", "ways length",
            "ways truth size", "ways truth truth truth", "ways size ", "ways  size", " ways size", "ways truth length ", "ways truth like",
            "ways hash hash", "ways call call", "ways unlike own like turned turned_like",
        )
        self.lines("ways truth", "ways truth length", "ways size", before=["ways size"])
        self.lines("ways each", "ways call", before=["ways member walk"])
        self.lines("ways size", before=["class a"])
        self.lines("ways size", before=["class a", "class b", "bases a b"])
        table = read_table(FLAGS + "ways truth length\nways grow plus grow\n")
        self.assertEqual(table.book(), book_of({"truth": ("length",), "grow": ("plus", "grow")}))

    def test_classes(self):
        self.lines("class a b", "class A", "class abcdefg", "class 1", "class a1", "class a ", "class  a", " class a", "class")
        self.lines("class a", before=["class a"])
        self.lines("class b", before=["class a", "class b", "class c"])
        eight = [f"class {name}" for name in "abcdefgh"]
        self.lines("class i", "class a", before=eight)
        self.lines("class c", before=["class a", "class b", "bases a b"])
        self.lines("class b", before=["class a", "entry a truth native"])
        self.assertEqual(len(read_table(FLAGS + "\n".join(eight) + "\n")), 8)

    def test_bases(self):
        three = ["class a", "class b", "class c"]
        self.lines("bases", "bases a", "bases z", "bases z a", "bases a z", "bases a b z", "bases a b ", "bases a  b", "bases A b",
                   "bases a A", before=three)
        self.lines("bases b a", "bases a c", "bases b c", before=[*three, "bases b c"])
        self.lines("bases a b", before=[*three, "entry c truth native"])
        self.lines("bases a a", before=[])

    def test_entries(self):
        two = ["class a", "class b"]
        self.lines(
            "entry", "entry a", "entry a truth", "entry z truth native", "entry a size native", "entry a truth natives", "entry a truth None",
            "entry a truth native native", "entry a truth barred", "entry a truth native ", "entry a  truth native", "entry A truth native",
            "entry a truth body", "entry a truth body ", "entry a truth body decline", "entry a truth yes", "entry a walk body yes",
            "entry a truth body yes yes", "entry a truth body  yes", "entry a truth body yes ", "entry a has body ask like self self",
            "entry a length body count 5", "entry a grow body yes", "entry a truth Native", "entry a truth blocked native", before=two,
        )
        self.lines("entry a truth native", "entry a truth blocked", "entry a length native", "entry a item native",
                   before=[*two, "entry a item native"])
        self.lines("entry a call native", "entry b truth native", "entry b truth body no", before=[*two, "entry b truth native"])
        self.lines("entry b hash native", before=["class a"])
        table = read_table(FLAGS + "class a\nentry a truth body no\nentry a plus blocked\nentry a call native\n")
        self.assertEqual(table.entries("a"), [("truth", Body("truth", ("no",))), ("plus", "blocked"), ("call", "native")])

    def test_bases_without_an_order(self):
        classes = FLAGS + "".join(f"class {name}\n" for name in "abcd")
        for bases in (
            "bases a a\n", "bases a b b\n", "bases a b\nbases b a\n", "bases a b\nbases b c\nbases c d\nbases d a\n",
            "bases b a\nbases c a b\n", "bases b a\nbases c b a\nbases d a c\n", "bases a b c\nbases b d\nbases c d\nbases d a\n",
            "bases c a b\nbases d b a\n" + "bases e c d\n", "bases a a b c d a b c d a b\n",
        ):
            text = classes + ("class e\n" if "e c" in bases else "") + bases
            self.wrong(None, text)
            self.wrong(None, text + "entry a truth native\n")
            lines = text.count("\n")
            self.wrong(lines, text + "entry z truth native\n")
            self.wrong(lines + 1, text + "entry a truth native\nbases d a\n")

    def test_a_note_that_is_cut(self):
        """Every beginning of whole lines is a note; any other text that is cut is none."""
        for at in range(len(NOTE)):
            text = NOTE[:at]
            if text.endswith("\n"):
                read_table(text)
            else:
                self.wrong(None, text)

    def test_only_what_is_written_is_read(self):
        """By chance: lines taken away, twice, exchanged, and words changed."""
        good = 0
        for seed in range(1500):
            chance = random.Random(seed)
            lines = write_table(chance_table(chance, chance.randint(0, 4), entries=0.15, bodies=2)).split("\n")[:-1]
            at, other = chance.randrange(len(lines)), chance.randrange(len(lines))
            kind = seed % 5
            if kind == 0:
                del lines[at]
            elif kind == 1:
                lines.insert(other, lines[at])
            elif kind == 2:
                lines[at], lines[other] = lines[other], lines[at]
            elif kind == 3:
                words = lines[at].split(" ")
                words[chance.randrange(len(words))] = chance.choice(("a", "b", "yes", "native", "", "truth", "class", "own"))
                lines[at] = " ".join(words)
            text = "".join(line + "\n" for line in lines)
            try:
                table = read_table(text)
            except NoNote:
                continue
            good += 1
            self.assertEqual(write_table(table), text)
        self.assertGreater(good, 300)

    def test_many_lines(self):
        self.wrong(1, FLAGS + "\n" * 10000)
        self.wrong(1, FLAGS + "class " * 3000 + "\n")
        self.wrong(2, FLAGS + "class a\n" * 2000)
