"""Forms of machines: rows behind which every script goes on alike are joined."""

from answersby.rows import nexts_of


class Met:
    """Things, numbered in the order in which they are met first."""

    def __init__(self, first):
        self._things = [first]
        self._numbers = {first: 0}

    def many(self):
        """How many different things were met."""
        return len(self._things)

    def thing(self, number):
        """The thing of this number."""
        return self._things[number]

    def number(self, thing):
        """The number of a thing, which is met now if it is new."""
        if thing not in self._numbers:
            self._numbers[thing] = len(self._things)
            self._things.append(thing)
        return self._numbers[thing]


class Blocks:
    """Rows in blocks: at first by their labels, later in ever smaller ones.

    The rows of a block stand side by side in one list, the marked ones first. So a
    halving costs no more than the rows that were marked, and large machines are quick.
    """

    def __init__(self, labels):
        members = {}
        for row, label in enumerate(labels):
            members.setdefault(label, []).append(row)
        self._rows = []
        self._firsts = []
        self._ends = []
        self._marks = []
        self._of_row = [0] * len(labels)
        self._touched = []
        for rows in members.values():
            self._firsts.append(len(self._rows))
            self._rows.extend(rows)
            self._ends.append(len(self._rows))
            self._marks.append(0)
        self._places = [0] * len(labels)
        for place, row in enumerate(self._rows):
            self._places[row] = place
        for block in range(len(self._firsts)):
            self._name(block)

    def _name(self, block):
        for row in self.rows(block):
            self._of_row[row] = block

    def many(self):
        """The number of the blocks."""
        return len(self._firsts)

    def rows(self, block):
        """The rows of a block."""
        return self._rows[self._firsts[block]:self._ends[block]]

    def mark(self, row):
        """Marks a row for the next halving; no row is marked twice before it."""
        block = self._of_row[row]
        if self._marks[block] == 0:
            self._touched.append(block)
        free = self._firsts[block] + self._marks[block]
        place = self._places[row]
        moved = self._rows[free]
        self._rows[free] = row
        self._rows[place] = moved
        self._places[row] = free
        self._places[moved] = place
        self._marks[block] += 1

    def halve_marked(self):
        """Parts marked from unmarked rows; returns the new blocks, the smaller halves."""
        touched = self._touched
        self._touched = []
        made = [self._halve(block) for block in touched]
        return [block for block in made if block is not None]

    def _halve(self, block):
        first, end = self._firsts[block], self._ends[block]
        middle = first + self._marks[block]
        self._marks[block] = 0
        if middle == end:
            return None
        made = len(self._firsts)
        if middle - first <= end - middle:
            self._firsts[block] = middle
            self._firsts.append(first)
            self._ends.append(middle)
        else:
            self._ends[block] = middle
            self._firsts.append(middle)
            self._ends.append(end)
        self._marks.append(0)
        self._name(made)
        return made


def _label(row):
    """What tells rows apart before any outcome."""
    return row[:2]


def _sources(rows):
    """For each row the tuples (place, source) of the rows that lead to it."""
    sources = [[] for _ in rows]
    for number, row in enumerate(rows):
        for place, behind in enumerate(nexts_of(row)):
            sources[behind].append((place, number))
    return sources


def _sources_by_place(rows, sources):
    """The lists of the sources of some rows, one list for each place."""
    by_place = {}
    for row in rows:
        for place, source in sources[row]:
            by_place.setdefault(place, []).append(source)
    return list(by_place.values())


def alike_numbers(rows):
    """For each row the least row behind which every script goes on as behind this one."""
    blocks = Blocks([_label(row) for row in rows])
    sources = _sources(rows)
    waiting = list(range(blocks.many()))
    while waiting:
        for hits in _sources_by_place(blocks.rows(waiting.pop()), sources):
            for row in hits:
                blocks.mark(row)
            # Only the smaller halves have to wait: they tell apart what the larger ones do.
            waiting.extend(blocks.halve_marked())
    leasts = [0] * len(rows)
    for block in range(blocks.many()):
        members = blocks.rows(block)
        least = min(members)
        for row in members:
            leasts[row] = least
    return leasts


def form_of(rows):
    """The tuple of the rows of the form of a machine with these rows."""
    leasts = alike_numbers(rows)
    met = Met(leasts[0])
    form = []
    while len(form) < met.many():
        row = rows[met.thing(len(form))]
        if row[0] == "call":
            row = ("call", row[1], tuple([met.number(leasts[behind]) for behind in row[2]]))
        form.append(row)
    return tuple(form)
