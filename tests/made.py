"""Machines made by chance, and a plain writing of what their forms are."""

from answersby.names import outcomes_of

ENDS = (("yes",), ("no",), ("count", 2), ("done",), ("raised", "step"), ("loop", (("a", "like", 0, 1),)))
CALLS = ((0, "has", "a", 1), (1, "item", "b", "up"), (0, "step", "a", "walk"), (2, "like", "c", 0))


def by_breadth(rows):
    """The rows that are reached from row 0, numbered by breadth."""
    order = [0]
    for number in order:
        for behind in rows[number][2:] and rows[number][2]:
            if behind not in order:
                order.append(behind)
    names = {number: at for at, number in enumerate(order)}
    made = []
    for number in order:
        row = rows[number]
        made.append(row if row[0] == "end" else (*row[:2], tuple(names[behind] for behind in row[2])))
    return made


def chance_rows(chance, many, calls=len(CALLS)):
    """At most so many rows of a machine."""
    rows = []
    for _ in range(many):
        if chance.random() < 0.3:
            rows.append(("end", chance.choice(ENDS[:3])))
        else:
            call = chance.choice(CALLS[:calls])
            rows.append(("call", call, tuple(chance.randrange(many) for _ in outcomes_of(call[1]))))
    return by_breadth(rows)


def doubled(chance, rows, many):
    """A machine that plays alike, in which some rows stand several times."""
    copies = [chance.randrange(len(rows)) for _ in range(many)]
    whose = [*range(len(rows)), *copies]
    made = []
    for number in whose:
        row = rows[number]
        if row[0] == "call":
            nexts = [chance.choice([at for at, known in enumerate(whose) if known == behind]) for behind in row[2]]
            row = (*row[:2], tuple(nexts))
        made.append(row)
    return by_breadth(made)


def plain_alike(rows):
    """For each row the least one that goes on alike, found by rounds over all rows."""
    blocks = [row[:2] for row in rows]
    for _ in rows:
        whole = [(blocks[at], *[blocks[behind] for behind in (row[2] if row[0] == "call" else ())])
                 for at, row in enumerate(rows)]
        blocks = [whole.index(key) for key in whole]
    return blocks


def plain_form(rows):
    leasts = plain_alike(rows)
    joined = [row if row[0] == "end" else (*row[:2], tuple(leasts[behind] for behind in row[2])) for row in rows]
    return tuple(by_breadth(joined))
