"""[0.2] over the whole program, on tables made by chance and changed step by step."""

import random
import unittest

from answersby.agreements import AGREEMENTS, pair_of
from answersby.alike import parting
from answersby.console import Console
from answersby.edits import changes, edited, free_exchanges, make_edits, may_change
from answersby.errors import EditFailed, OutOfStep, Parted, TooMany
from answersby.heirs import spared
from answersby.joint import clash
from answersby.machines import looked_of, machine_of, names_of
from answersby.names import OPERATIONS
from answersby.newer import book_changes, with_book
from answersby.notes import read_table, write_table
from answersby.papers import gap, paper_of
from answersby.scenes import Scene
from answersby.steady import related, steady_end
from answersby.tables import Table
from oracle import Oracle, chance_book, chance_scene
from test_edits import chance_edit


def made_anew(scene):
    """The scene over a table that is made from nothing, class by class."""
    table = scene.table()
    anew = Table(table.book())
    for name in table:
        anew.add(name)
    waiting = table.listed()
    while waiting:
        name = next(name for name in waiting if not set(table.bases(name)) & set(waiting))
        anew.set_bases(name, *table.bases(name))
        waiting.remove(name)
    for name in table:
        for method, entry in table.entries(name):
            anew[name, method] = entry
    return Scene(anew, *scene.classes())


def scenes(seed, many=6):
    """A scene and what a row of edits make of it, with the edits that were made."""
    chance = random.Random(seed)
    scene = chance_scene(seed, bodies=seed % 5, rooted=seed % 4 == 0)
    rows = []
    while len(rows) < many:
        edit = chance_edit(chance, scene.table())
        try:
            later = edited(scene, [edit])
        except EditFailed:
            continue
        rows.append((scene, edit, later))
        scene = later
    return rows


class WholeTest(unittest.TestCase):
    def test_edits_beside_machines_made_anew(self):
        for seed in range(30):
            for scene, edit, later in scenes(seed):
                anew = made_anew(later)
                self.assertEqual(anew.table(), later.table())
                found = dict(changes(scene, [edit]))
                for operation in OPERATIONS:
                    before, behind = machine_of(scene, operation), machine_of(anew, operation)
                    self.assertEqual(machine_of(later, operation), behind)
                    self.assertEqual(operation in found, before != behind)
                    self.assertEqual(found.get(operation), parting(before, behind))
                    if not may_change(scene, operation, [edit]):
                        self.assertNotIn(operation, found)

    def test_a_row_of_edits_at_once(self):
        for seed in range(40):
            rows = scenes(seed, 8)
            edits = [edit for _, edit, _ in rows]
            first, last = rows[0][0], rows[-1][2]
            later = edited(first, edits)
            self.assertEqual(later.table(), last.table())
            wanted = [operation for operation in OPERATIONS if machine_of(first, operation) != machine_of(last, operation)]
            self.assertEqual([operation for operation, _ in changes(first, edits)], wanted)
            table = first.table()
            make_edits(table, make_edits(table, edits))
            self.assertEqual(table, first.table())
            self.assertEqual(changes(first.over(table), []), [])

    def test_books_beside_machines_made_anew(self):
        for seed in range(30):
            chance = random.Random(seed)
            scene, book = chance_scene(seed, bodies=seed % 5), chance_book(chance)
            found = dict(book_changes(scene, book))
            anew = made_anew(with_book(scene, book))
            for operation in OPERATIONS:
                script = parting(machine_of(scene, operation), machine_of(anew, operation))
                self.assertEqual(found.get(operation), script)
                if script is not None:
                    ends = [Oracle(over).run(operation, script)[1:] for over in (scene, anew)]
                    self.assertNotEqual(*ends)

    def test_exchanges(self):
        for seed in range(30):
            scene = chance_scene(seed, entries=0.2, bodies=2)
            for name in scene.table():
                for pair in free_exchanges(scene, name):
                    table = scene.table()
                    bases = list(table.bases(name))
                    for at, other in (pair, pair[::-1]):
                        bases[at] = table.bases(name)[other]
                    table.set_bases(name, *bases)
                    for operation in OPERATIONS:
                        self.assertEqual(machine_of(scene, operation), machine_of(scene.over(table), operation))

    def test_tables_that_are_written_and_read(self):
        for seed in range(40):
            for _, _, later in scenes(seed, 4):
                read = read_table(write_table(later.table()))
                self.assertEqual(read, later.table())
                over = later.over(read)
                for operation in OPERATIONS[seed % 2::2]:
                    self.assertEqual(machine_of(over, operation), machine_of(later, operation))
                    self.assertEqual(names_of(over, operation), names_of(later, operation))
                    self.assertEqual(looked_of(over, operation), looked_of(later, operation))

    def test_papers_of_edited_scenes(self):
        for seed in range(30):
            for scene, edit, later in scenes(seed, 3):
                changed = [operation for operation, _ in changes(scene, [edit])]
                for operation in OPERATIONS:
                    before, behind = machine_of(scene, operation), machine_of(later, operation)
                    if operation in changed:
                        with self.assertRaises(Parted):
                            paper_of(before, behind)
                    else:
                        self.assertIsNone(gap(paper_of(before, behind), before, behind))

    def test_what_spares_an_operation_does_not_change_it(self):
        for seed in range(30):
            for scene, edit, later in scenes(seed):
                changed = [operation for operation, _ in changes(scene, [edit])]
                for operation in OPERATIONS:
                    if spared(scene, operation, later):
                        self.assertNotIn(operation, changed)

    def test_clashes(self):
        met = 0
        for seed in range(60):
            for _, _, scene in scenes(seed, 2):
                for name in AGREEMENTS:
                    first, second, relation = pair_of(scene, name)
                    try:
                        told = clash(first, second, relation)
                    except (OutOfStep, TooMany):
                        continue
                    if told is not None:
                        met += 1
                        (one, _), (other, items) = steady_end(first, told), steady_end(second, told)
                        self.assertFalse(related(relation, one, other, items))
        self.assertGreater(met, 50)

    def test_a_console_beside_edits(self):
        """The same lines and edits lead to the same table, and undo to the same ones back."""
        for seed in range(30):
            rows = [row for row in scenes(seed, 10)]
            console = Console(rows[0][0].table().book())
            lines = write_table(rows[0][0].table()).split("\n")[:-1]
            for line in lines:
                word, _, rest = line.partition(" ")
                if word in ("class", "bases", "entry"):
                    self.assertEqual(console.run(f"{'set' if word == 'entry' else word} {rest}"), "ok")
            tables = [console.table()]
            self.assertEqual(tables[0], rows[0][0].table())
            for _, edit, later in rows:
                if edit[0] == "book":
                    break
                table = later.table()
                if edit[0] == "bases":
                    line = " ".join(["bases", edit[1], *edit[2]])
                elif table[edit[1], edit[2]] is None:
                    line = f"clear {edit[1]} {edit[2]}"
                else:
                    prefix = f"entry {edit[1]} {edit[2]} "
                    told = [line for line in write_table(table).split("\n") if line.startswith(prefix)][0]
                    line = "set" + told.removeprefix("entry")
                self.assertEqual(console.run(line), "ok")
                self.assertEqual(console.table(), table)
                tables.append(table)
            for table in tables[-2::-1]:
                self.assertEqual(console.run("undo"), "ok")
                self.assertEqual(console.table(), table)
