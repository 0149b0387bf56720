"""Papers: pairs of rows that show that two machines play alike."""

from answersby.alike import differ, parting, searched
from answersby.checks import is_number
from answersby.errors import NoPaper, Parted
from answersby.machines import check_machine
from answersby.rows import nexts_of

MOST_NUMBER = 9999
START = (0, 0)


def _is_pair(value):
    """Whether any value is a tuple of two numbers from 0 to MOST_NUMBER."""
    if not isinstance(value, tuple) or len(value) != 2:
        return False
    return all([is_number(number) and 0 <= number <= MOST_NUMBER for number in value])


class Paper:
    """A set of pairs of numbers of rows; it never changes."""

    def __init__(self, pairs):
        if not isinstance(pairs, (list, tuple)):
            raise NoPaper(None)
        for index, pair in enumerate(pairs):
            if not _is_pair(pair):
                raise NoPaper(index)
        self._pairs = {pair: True for pair in sorted(set(pairs))}

    def listed(self):
        """The list of the pairs, in ascending order."""
        return list(self._pairs)

    def __contains__(self, value):
        return _is_pair(value) and value in self._pairs

    def __eq__(self, other):
        return isinstance(other, Paper) and self._pairs == other._pairs

    def __invert__(self):
        return Paper([(second, first) for first, second in self._pairs])

    def __mul__(self, other):
        pairs = list(other._pairs)
        # The pairs stand in order, so those with one first number are a slice of them.
        begins = {pairs[at][0]: at for at in range(len(pairs) - 1, -1, -1)}
        ends = {pair[0]: at + 1 for at, pair in enumerate(pairs)}
        return Paper([
            (first, third)
            for first, second in self._pairs
            if second in begins
            for _, third in pairs[begins[second]:ends[second]]
        ])

    def __iter__(self):
        return iter(self._pairs)

    def __len__(self):
        return len(self._pairs)


def paper_of(first, second):
    """The least closed Paper of two machines."""
    script = parting(first, second)
    if script is not None:
        raise Parted(script)
    _, before = searched(first, second, START)
    return Paper(list(before))


def _keeps_rule(paper, firsts, seconds, pair):
    """Whether a pair of a paper keeps the rule of closed papers."""
    if pair[0] >= len(firsts) or pair[1] >= len(seconds):
        return False
    one, other = firsts[pair[0]], seconds[pair[1]]
    if differ(one, other):
        return False
    return all([behind in paper for behind in zip(nexts_of(one), nexts_of(other))])


def gap(paper, first, second):
    """The pair for which a paper of two machines is not closed, or None."""
    if not isinstance(paper, Paper):
        raise NoPaper(None)
    check_machine(first)
    check_machine(second)
    if START not in paper:
        return START
    firsts, seconds = first.listed(), second.listed()
    for pair in paper:
        if not _keeps_rule(paper, firsts, seconds, pair):
            return pair
    return None
