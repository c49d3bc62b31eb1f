"""Values and checks that several tests share; no tests themselves."""

from oracle import paths_of
from prepaidplans.errors import InvalidParts, InvalidPlan, InvalidTasks, TooLarge


class Odd:
    """An object that no module knows."""


class Twin:
    """An object that says that it equals everything."""

    def __eq__(self, other):
        return True

    def __hash__(self):
        return 0


# Values of any kind, none of which is a fraction, a pair, a name, a task, tasks, a plan or a path.
ANYTHING = [
    None, True, False, 0, 1, -1, 10 ** 59, "", "X", "order", "+", b"", b"a", [], (), {}, [1], (1,), [[]], ((),),
    {"X": 1}, {1: 2}, {True: False}, {(): []}, set(), {1, 2}, frozenset([1]), range(3), object(), Odd(), Twin(), Odd,
    len, [("x",)], ("task",), ("order",), (None, None), ([], []), ({}, {}), (1, 2, 3), "1/2", (Twin(), Twin()),
    (Twin(), 1, [(Twin(), Twin(), Twin())]), (Twin(), []), (Twin(), "a"), [(1, (1, 2))] * 2 + [None],
]

# As deep as values may be, and deeper than every plan.
DEEP_LIST = []
DEEP_TUPLE = ()
for _ in range(39):
    DEEP_LIST = [DEEP_LIST]
    DEEP_TUPLE = (DEEP_TUPLE,)
ANYTHING.extend([DEEP_LIST, DEEP_TUPLE])


def sure(tick=1, cost=1, undo=1):
    """Return a task that is done at this tick."""
    return (cost, undo, [(tick, "done", (1, 1))])


def tasks_example():
    """Return new tasks, those of the document."""
    return {
        "a": (4, 2, [(1, "failed", (1, 2)), (2, "done", (1, 2))]),
        "b": (1, 3, [(1, "done", (3, 4)), (3, "failed", (1, 4))]),
        "c": (2, None, [(1, "done", (1, 1))]),
    }

# Tasks with every end from tick 1 to 4, so that any fate up to there can be told; d cannot be undone.
FREE_ENDS = [(tick, word, (1, 8)) for tick in (1, 2, 3, 4) for word in ("done", "failed")]
FREE = {"a": (1, 10, FREE_ENDS), "b": (2, 20, FREE_ENDS), "c": (4, 40, FREE_ENDS), "d": (8, None, FREE_ENDS)}
A, B, C, D = ("task", "a"), ("task", "b"), ("task", "c"), ("task", "d")

# Of size 400 and 401, and of span 400 and 401, with tasks as in large_tasks().
SIZE_400 = ("again", 19, 0, ("order", [("task", "a")] * 20))
SIZE_401 = ("again", 20, 0, ("order", [("task", "a")] * 19))
SPAN_400 = ("later", 10, ("order", [("task", "b")] * 13))
SPAN_401 = ("later", 11, ("order", [("task", "b")] * 13))
SIZE_421_AND_SPAN = ("again", 20, 100, ("order", [("task", "b")] * 20))


def large_tasks():
    """Return new tasks: a takes 1 tick, and b takes 30."""
    return {"a": sure(), "b": sure(tick=30)}


def fates_of(plan, told):
    """Return fates for the task paths of a plan, ascending, from words such as "d2 f3"."""
    words = {"d": "done", "f": "failed"}
    paths = sorted(paths_of(plan))
    assert len(paths) == len(told.split()), (plan, told)
    return {path: (int(word[1:]), words[word[0]]) for path, word in zip(paths, told.split())}


def check_first_errors(test, call):
    """Test that call(tasks, plan) raises the errors of tasks and of plans, in their order, ahead of all others."""
    wrong = {"b": 1, "a": (1, 1, [(1, "done", (1, 1))]), "c": None}
    for tasks, name in [(None, None), ({}, None), ([], None), ({"A": 1}, None), (wrong, "b")]:
        for plan in (A, None, SIZE_401, ("order", [("task", "A")])):
            with test.assertRaises(InvalidTasks, msg=repr(tasks)) as caught:
                call(tasks, plan)
            test.assertEqual(caught.exception.name, name)
    two = ("order", [("task", "a"), ("keep", 1)])
    for plan, path in [(None, ()), ("a", ()), (["task", "a"], ()), (two, (1,)), (("later", True, A), ())]:
        for tasks in (large_tasks(), FREE):
            with test.assertRaises(InvalidPlan, msg=repr(plan)) as caught:
                call(tasks, plan)
            test.assertEqual(caught.exception.path, path)
    for plan, number in [(SIZE_401, 401), (SPAN_401, 401), (SIZE_421_AND_SPAN, 421)]:
        with test.assertRaises(TooLarge, msg=repr(plan)) as caught:
            call(large_tasks(), plan)
        test.assertEqual(caught.exception.number, number)


def check_part_errors(test, call):
    """Test that call(tasks, parts) raises the errors of tasks and of parts, in their order, ahead of all others."""
    wrong = {"b": 1, "a": (1, 1, [(1, "done", (1, 1))]), "c": None}
    for tasks, name in [(None, None), ({}, None), (wrong, "b")]:
        for parts in ([A], None, [SIZE_401], [None], [A] * 13):
            with test.assertRaises(InvalidTasks, msg=repr(tasks)) as caught:
                call(tasks, parts)
            test.assertEqual(caught.exception.name, name)
    values = [(value, None) for value in ANYTHING if not isinstance(value, list)]
    values += [([A] * 13, None), ([None] * 13, None), ((A, B), None), (A, None), ({0: A}, None), ("ab", None)]
    values += [([value], 0) for value in ANYTHING] + [([A, B, A, value, None], 3) for value in ANYTHING]
    values += [([A, B, ("task", "x")], 2), ([A, ("later", True, A), 1], 1), ([[A]], 0), ([SIZE_401, A, ("order", (A,))], 2)]
    values += [([SPAN_401, ("task", "c")], 1), ([A] * 11 + [("keep", [])], 11)]
    for parts, index in values:
        with test.assertRaises(InvalidParts, msg=repr(parts)) as caught:
            call(large_tasks(), parts)
        test.assertEqual(caught.exception.index, index, repr(parts))
    for parts, number in [([SIZE_401], 401), ([A, SPAN_401], 401), ([A, SIZE_421_AND_SPAN, SIZE_401], 421)]:
        with test.assertRaises(TooLarge, msg=repr(parts)) as caught:
            call(large_tasks(), parts)
        test.assertEqual(caught.exception.number, number)
