"""Orders: the classes through which lookups go."""


def _free_head(rows):
    """The first name that heads a row and stands behind no head, or None."""
    for row in rows:
        if not any([row[0] in other[1:] for other in rows]):
            return row[0]
    return None


def _without(rows, name):
    """The rows that are left if a name is removed from all."""
    left = [[word for word in row if word != name] for row in rows]
    return [words for words in left if words]


def merged(rows):
    """The merge of a list of lists of names, or None if there is none."""
    left = [row for row in rows if row]
    taken = []
    while left:
        name = _free_head(left)
        if name is None:
            return None
        taken.append(name)
        left = _without(left, name)
    return taken


def order_of(name, bases):
    """The order of a class by a dict of the bases of all classes, or None."""
    rows = []
    for base in bases[name]:
        row = order_of(base, bases)
        if row is None:
            return None
        rows.append(row)
    behind = merged([*rows, bases[name]])
    return None if behind is None else [name, *behind]
