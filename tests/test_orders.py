import copy
import unittest
from itertools import product

from answersby.orders import merged


def slow_merge(rows):
    """The merge, by the words of the document."""
    rows = [list(row) for row in rows]
    taken = []
    while any(rows):
        for row in rows:
            if row and all(row[0] not in other[1:] for other in rows):
                taken.append(row[0])
                break
        else:
            return None
        rows = [[name for name in row if name != taken[-1]] for row in rows]
    return taken


class MergedTest(unittest.TestCase):
    def test_by_hand(self):
        self.assertEqual(merged([["a"]]), ["a"])
        self.assertEqual(merged([["a", "b", "c"]]), ["a", "b", "c"])
        self.assertEqual(merged([["a"], ["b"]]), ["a", "b"])
        self.assertEqual(merged([["b"], ["a"]]), ["b", "a"])
        self.assertEqual(merged([["a", "c"], ["b", "c"], ["a", "b"]]), ["a", "b", "c"])
        self.assertEqual(merged([["b", "c"], ["a", "b"]]), ["a", "b", "c"])
        self.assertEqual(merged([["c"], ["a", "b"], ["b", "c"]]), ["a", "b", "c"])
        self.assertEqual(merged([["a", "b"], ["a", "c"], ["a", "d"]]), ["a", "b", "c", "d"])

    def test_the_first_list_goes_first_again_each_time(self):
        rows = [["k", "a"], ["l", "k"], ["m"]]
        self.assertEqual(merged(rows), ["l", "k", "a", "m"])

    def test_a_known_merge_of_several_bases(self):
        rows = [["d", "f", "o"], ["e", "d", "o"], ["f", "o"]]
        self.assertEqual(merged(rows), ["e", "d", "f", "o"])
        rows = [["b", "d", "e", "o"], ["c", "d", "f", "o"], ["b", "c"]]
        self.assertEqual(merged(rows), ["b", "c", "d", "e", "f", "o"])

    def test_none(self):
        self.assertIsNone(merged([["a", "b"], ["b", "a"]]))
        self.assertIsNone(merged([["a", "b"], ["b", "c"], ["c", "a"]]))
        self.assertIsNone(merged([["x"], ["a", "b"], ["b", "a"]]))
        self.assertIsNone(merged([["x", "a", "b"], ["x", "b", "a"], ["y"]]))

    def test_twice_in_one_list(self):
        self.assertIsNone(merged([["a", "a"]]))
        self.assertIsNone(merged([["a"], ["a"], ["a", "a"]]))
        self.assertIsNone(merged([["a", "b", "a"]]))
        self.assertIsNone(merged([["b", "a", "a"]]))

    def test_empty(self):
        self.assertEqual(merged([]), [])
        self.assertEqual(merged([[]]), [])
        self.assertEqual(merged([[], [], []]), [])
        self.assertEqual(merged([[], ["a"], [], ["a", "b"]]), ["a", "b"])

    def test_the_lists_stay(self):
        for rows in ([["a", "c"], [], ["b", "c"], ["a", "b"]], [["a", "b"], ["b", "a"]], [["a"]]):
            kept = copy.deepcopy(rows)
            merged(rows)
            self.assertEqual(rows, kept)

    def test_the_result_is_new(self):
        rows = [["a", "b"]]
        first = merged(rows)
        first.append("c")
        self.assertEqual(merged(rows), ["a", "b"])
        self.assertEqual(rows, [["a", "b"]])

    def test_all_small_ones(self):
        short = [[], ["a"], ["b"], ["a", "b"], ["b", "a"], ["a", "a"], ["c", "a"], ["b", "c"], ["a", "c", "b"]]
        for rows in product(short, repeat=3):
            self.assertEqual(merged(list(rows)), slow_merge(rows), rows)

    def test_as_python_orders_its_classes(self):
        top, left, right = type("T", (), {}), None, None
        left, right = type("L", (top,), {}), type("R", (top,), {})
        for bases in ((left, right), (right, left), (left, top), (right, left, top)):
            expected = [kind.__name__ for kind in type("X", bases, {}).__mro__[1:-1]]
            rows = [[kind.__name__ for kind in base.__mro__[:-1]] for base in bases]
            self.assertEqual(merged(rows + [[base.__name__ for base in bases]]), expected)

    def test_argument_by_name(self):
        self.assertEqual(merged(rows=[["a"], ["b"]]), ["a", "b"])
