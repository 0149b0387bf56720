"""Agreements: pairs of operations whose ends belong together."""

from answersby.checks import is_one_of
from answersby.errors import NoAgreement
from answersby.joint import clash
from answersby.machines import machine_of
from answersby.scenes import check_scene

AGREEMENTS = ("truth", "length", "unlike", "behind", "member")
# For each one the two operations and the relation of their ends.
PAIRS = {
    "truth": ("truth", "size", "nonzero"),
    "length": ("size", "each", "counts"),
    "unlike": ("unlike", "like", "opposite"),
    "behind": ("behind", "before", "same"),
    "member": ("member", "member", "same"),
}


def _without_has(scene):
    """The scene over a book in which member does not try has."""
    table = scene.table()
    book = table.book()
    book["member"] = tuple([way for way in book["member"] if way != "has"])
    table.set_book(book)
    return scene.over(table)


def pair_of(scene, name):
    """The tuple (first, second, relation) of two machines that are to agree."""
    check_scene(scene)
    if not is_one_of(name, AGREEMENTS):
        raise NoAgreement(name)
    one, other, relation = PAIRS[name]
    other_scene = _without_has(scene) if name == "member" else scene
    first = machine_of(scene, one)
    second = machine_of(other_scene, other, exchanged=name == "behind")
    return (first, second, relation)


def disagreement(scene, name):
    """The clash of the pair of this name, or None."""
    first, second, relation = pair_of(scene, name)
    return clash(first, second, relation)
