"""Values of many kinds, for the places where any value may stand."""


class EqualToAll:
    """Calls itself equal to everything, and has no hash."""

    def __eq__(self, other):
        return True


class RefusesAll:
    """Refuses to be compared, hashed, counted, shown or told true from false."""

    def __eq__(self, other):
        raise ArithmeticError("compared")

    def __hash__(self):
        raise ArithmeticError("hashed")

    def __len__(self):
        raise ArithmeticError("counted")

    def __bool__(self):
        raise ArithmeticError("told")

    def __repr__(self):
        raise ArithmeticError("shown")


def deep(levels):
    value = ()
    for _ in range(levels):
        value = (value,)
    return value


# None of them is a word, a method, an operation, a flag, an entry, a class, or
# anything else that this package knows by a name.
STRANGE = (
    None, 1.0, 0.5, float("nan"), 2 + 0j, b"", b"like", b"yes", "", " ", "Like", "LIKE", "like ", " like", "like\n",
    [], ["like"], ("like",), {}, {"like": 1}, {"like"}, frozenset(["like"]), (), ((),), [[]], deep(3000),
    object(), int, len, Ellipsis, NotImplemented, range(3), iter([]), bytearray(b"like"),
    ValueError("like"), EqualToAll(), RefusesAll(), lambda: "like",
)
NUMBERS = (-1, 0, 1, 2, 3, 4, 5, 10 ** 30, True, False)
NO_NAMES = STRANGE + NUMBERS


def misspelt(word):
    """Words that are not this one, but nearly."""
    yield word + "s"
    yield word[:-1]
    yield word[1:]
    yield word[1] + word[0] + word[2:]
    yield word.upper()
    yield word.capitalize()
    yield word + " "
    yield "_" + word
