"""Runs: how an operation goes from one call to the next one, and to its end.

A state of a run has a stack of frames. The last frame is the one that waits for
the answer of the call, or of what began last. A frame is one of:
- ("ask", operation, operand, other, number): the operation waits for the method
  that its way of this number has found;
- ("body", owner, method, operand, other, place): an open body waits for the answer
  that its node at this place is to have;
- ("items", operand, method, owner, at): a member compares an item; this is the call
  that asks for the next one.
"""

from answersby.bodies import Body
from answersby.checks import is_number, is_one_of
from answersby.names import kind_of, takes_other

MOST_BODIES = 40
ITEM = 2

FLAG_ANSWERS = ("yes", "no")
EXCHANGED = {"yes": "no", "no": "yes"}
TURNED = {"before": "behind", "behind": "before"}
ENDS_SAME = {"like": "no", "unlike": "yes"}
WALKERS = ("walk", "back")
ITERATING = ("walk", "back", "step", "item")


def target_of(operation, way, operand, other):
    """The operand and the method that a way looks up, and what stands at the end of its call."""
    if way == "own":
        return (operand, operation, other)
    if way == "turned":
        return (other, TURNED.get(operation, operation), operand)
    if way == "turned_like":
        return (other, "like", operand)
    if way == "count":
        return (operand, "length", None)
    if way == "item":
        return (operand, "item", "first")
    return (operand, way, other if takes_other(way) else None)


def _changed(operation, way, answer):
    """The answer of an operation, if the method of the way gives this answer."""
    if operation == "truth" and way == "length":
        return "no" if answer == 0 else "yes"
    if way in ("like", "turned_like"):
        return EXCHANGED[answer]
    return answer


def _above(nodes, number):
    """The number of the node whose part this one is, or None."""
    for above, node in enumerate(nodes):
        if node[0] in ("not", "if") and number in node[1:]:
            return above
    return None


def _place(nodes, number):
    """The outermost node that has the answer of this one, as a branch of an if has.

    So states that differ only in the branch that was taken are equal.
    """
    above = _above(nodes, number)
    while above is not None and number != nodes[above][1]:
        number = above
        above = _above(nodes, number)
    return number


def _first_leaf(nodes, number):
    """The first node that is evaluated, if the node of this number is."""
    while nodes[number][0] in ("not", "if"):
        number = nodes[number][1]
    return number


def _given(node):
    """The answer that a node gives by itself, or None."""
    if node[0] == "count":
        return node[1]
    return node[0] if node[0] in ("yes", "no", "decline") else None


def _behind_test(nodes, number, answer):
    """Where a body goes on behind yes or no of a part of not or the test of an if.

    A tuple of a node and its answer; the answer is None if the node is not evaluated yet.
    """
    above = _above(nodes, number)
    if nodes[above][0] == "not":
        return (above, EXCHANGED[answer])
    return (nodes[above][2 if answer == "yes" else 3], None)


def _next_item(call):
    """The call that asks for the item behind that of this one."""
    operand, method, owner, at = call
    if is_number(at):
        return (operand, method, owner, at - 1)
    return (operand, method, owner, "up" if method == "item" else at)


class Run:
    """Goes from state to state in a scene, and keeps the lookups that it made."""

    def __init__(self, scene):
        self._scene = scene
        self._book = scene.book()
        self._lookups = {}
        self._stack = []
        self._entered = 0
        self._state = None

    def lookups(self):
        """The different tuples (operand, method, behind) that were looked up so far."""
        return list(self._lookups)

    def begin(self, operation, exchanged):
        """The first state of an operation."""
        operand, other = (1, 0) if exchanged else (0, 1)
        self._take([("ask", operation, operand, other, 0)])
        return self._settle(None)

    def behind(self, state, outcome):
        """The state behind an outcome of the call of a state."""
        self._take(state[2])
        return self._settle(self._answer(state[1], outcome))

    def _take(self, stack):
        self._stack = list(stack)
        self._entered = 0
        self._state = None

    def _settle(self, answer):
        """The state at which the run stops, if the last frame gets this answer.

        The answer None lets an operation begin.
        """
        while self._state is None:
            answer = self._go_on(answer)
        return self._state

    def _go_on(self, answer):
        """Gives an answer to the last frame; returns the answer for the next one."""
        if not self._stack:
            return self._end("count", answer) if is_number(answer) else self._end(answer)
        frame = self._stack.pop()
        if frame[0] == "ask":
            return self._go_on_asking(frame, answer)
        if frame[0] == "body":
            body = self._scene.entry(frame[1], frame[2])
            return self._evaluate(body, frame[1:5], frame[5], answer)
        return "yes" if answer == "yes" else self._call(frame[1:])

    def _end(self, *end):
        """Stops the run at an end; None is returned, as there is no answer."""
        self._state = ("end", end)

    def _call(self, call):
        """Stops the run at a call; None is returned, as there is no answer yet."""
        self._state = ("call", call, tuple(self._stack))

    def _lookup(self, operand, method, behind=None):
        lookup = (operand, method, behind)
        if lookup not in self._lookups:
            self._lookups[lookup] = self._scene.lookup(operand, method, behind)
        return self._lookups[lookup]

    def _go_on_asking(self, frame, answer):
        """Goes on with an operation whose method has answered, or that begins."""
        _, operation, operand, other, number = frame
        if answer is None:
            return self._try_ways(operation, operand, other, number)
        if answer == "decline":
            return self._try_ways(operation, operand, other, number + 1)
        way = self._book[operation][number]
        if way == "count" and is_number(answer):
            return self._count_down(frame, answer)
        return _changed(operation, way, answer)

    def _try_ways(self, operation, operand, other, number):
        """Tries the ways of an operation from this number on."""
        ways = self._book[operation]
        for at in range(number, len(ways)):
            target = target_of(operation, ways[at], operand, other)
            found = self._lookup(target[0], target[1])
            if found is not None:
                self._stack.append(("ask", operation, operand, other, at))
                return self._reach(found, target, operation)
        return self._end_ways(operation)

    def _end_ways(self, operation):
        """The answer if no way is left."""
        if operation == "truth" and self._book.ends_true:
            return "yes"
        if operation in ENDS_SAME and self._book.ends_same:
            return ENDS_SAME[operation]
        return self._end("refused", operation)

    def _reach(self, found, target, refused):
        """Calls or enters what a lookup found; refused is the name if it is blocked."""
        owner, entry = found
        operand, method, at = target
        if isinstance(entry, Body):
            return self._enter(entry, (owner, method, operand, at))
        if entry == "blocked":
            return self._end("refused", refused)
        if entry == "barred":
            return self._end("barred", owner)
        return self._call((operand, method, owner, at))

    def _answer(self, call, outcome):
        """What the last frame gets behind an outcome, or None if the run has stopped."""
        method = call[1]
        if outcome == "raise":
            return self._end("raised", method)
        if outcome == "wrong":
            return self._end("wrong", method)
        if method in ITERATING:
            return self._iterate(call, outcome)
        return outcome

    def _iterate(self, call, outcome):
        """Goes on with the items; the last frame is that of the operation."""
        operand, method, owner, at = call
        operation = self._stack[-1][1]
        # Only member runs there, and this is its first call, as the run ends here.
        if self._is_in_member():
            return self._end("deep")
        if method in WALKERS:
            return self._call((operand, "step", owner, method))
        if operation == "member":
            return self._compare(call, outcome)
        if outcome == "out" or at == 0:
            return "done"
        return self._call(_next_item(call))

    def _is_in_member(self):
        """Whether a member waits for the answer to one of its items."""
        return any([frame[0] == "items" for frame in self._stack])

    def _compare(self, call, outcome):
        """Goes on with a member behind an item."""
        if outcome != "other":
            return "yes" if outcome == "same" else "no"
        sought = self._stack[-1][3]
        following = _next_item(call)
        self._stack.append(("items", *following))
        self._stack.append(("ask", "like", ITEM, sought, 0))
        return None

    def _count_down(self, frame, length):
        """Goes on behind the length of the way count."""
        if length == 0:
            return "done"
        operand = frame[2]
        found = self._lookup(operand, "item")
        if found is None:
            return self._end("refused", "turned")
        self._stack.append(frame)
        return self._reach(found, (operand, "item", length - 1), "turned")

    def _enter(self, body, key):
        """Enters a body, unless it is open or too many are."""
        ring = [frame[1:5] for frame in self._stack if frame[0] == "body"]
        if key in ring:
            return self._end("loop", tuple(ring[ring.index(key):]))
        if len(ring) >= MOST_BODIES or self._entered >= MOST_BODIES:
            return self._end("deep")
        self._entered += 1
        return self._evaluate(body, key, 0, None)

    def _evaluate(self, body, key, number, answer):
        """Goes on in a body: at a node, or behind the answer of this node."""
        nodes = body.nodes()
        while True:
            if answer is None:
                number = _first_leaf(nodes, number)
                answer = _given(nodes[number])
                if answer is None:
                    return self._leave(nodes[number], key, _place(nodes, number))
            number = _place(nodes, number)
            if number == 0:
                return self._close(key[1], answer)
            if not is_one_of(answer, FLAG_ANSWERS):
                return self._end("wrong", key[1])
            number, answer = _behind_test(nodes, number, answer)

    def _leave(self, node, key, place):
        """Goes from a body to what its node of ask, further or raise leads to."""
        owner, method, operand, other = key
        if node[0] == "raise":
            return self._end("raised", method)
        self._stack.append(("body", *key, place))
        if node[0] == "ask":
            asked = [operand if role == "self" else other for role in node[2:]]
            self._stack.append(("ask", node[1], asked[0], asked[1] if len(asked) > 1 else None, 0))
            return None
        found = self._lookup(operand, method, owner)
        if found is None:
            return self._end("refused", method)
        return self._reach(found, (operand, method, other), method)

    def _close(self, method, answer):
        """The answer of a body, if it fits the method."""
        fits = is_number(answer) if kind_of(method) == "count" else is_one_of(answer, FLAG_ANSWERS)
        if fits or answer == "decline":
            return answer
        return self._end("wrong", method)
