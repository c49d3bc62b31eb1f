"""Values that several tests share; no tests themselves."""


class Odd:
    """An object that no module knows."""


class Twin:
    """An object that says that it equals everything."""

    def __eq__(self, other):
        return True

    def __hash__(self):
        return 0


# Values of any kind, none of which is a fraction, a pair, a name, a task, tasks, a plan or a path.
ANYTHING = [
    None, True, False, 0, 1, -1, 10 ** 59, "", "X", "order", "+", b"", b"a", [], (), {}, [1], (1,), [[]], ((),),
    {"X": 1}, {1: 2}, {True: False}, {(): []}, set(), {1, 2}, frozenset([1]), range(3), object(), Odd(), Twin(), Odd,
    len, [("x",)], ("task",), ("order",), (None, None), ([], []), ({}, {}), (1, 2, 3), "1/2", (Twin(), Twin()),
    (Twin(), 1, [(Twin(), Twin(), Twin())]), (Twin(), []), (Twin(), "a"), [(1, (1, 2))] * 2 + [None],
]

# As deep as values may be, and deeper than every plan.
DEEP_LIST = []
DEEP_TUPLE = ()
for _ in range(39):
    DEEP_LIST = [DEEP_LIST]
    DEEP_TUPLE = (DEEP_TUPLE,)
ANYTHING.extend([DEEP_LIST, DEEP_TUPLE])


def sure(tick=1, cost=1, undo=1):
    """Return a task that is done at this tick."""
    return (cost, undo, [(tick, "done", (1, 1))])


def tasks_example():
    """Return new tasks, those of the document."""
    return {
        "a": (4, 2, [(1, "failed", (1, 2)), (2, "done", (1, 2))]),
        "b": (1, 3, [(1, "done", (3, 4)), (3, "failed", (1, 4))]),
        "c": (2, None, [(1, "done", (1, 1))]),
    }
