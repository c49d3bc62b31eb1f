"""Tests of prepaidplans.plans: [7], [8], [11], [23]."""

import copy
import random
import unittest

from prepaidplans.errors import InvalidPath, InvalidPlan, InvalidTasks, TooLarge
from prepaidplans.plans import fault_of, is_plan, name_at, names_in, size, span, task_paths
from values import ANYTHING, Twin, sure, tasks_example

MOST = 10 ** 12
A, B, C = ("task", "a"), ("task", "b"), ("task", "c")
TASKS = {**tasks_example(), "long": sure(tick=30)}
LONG = ("task", "long")
LIST_WORDS = ["order", "other", "both", "race"]

# Each number of each word: how to make the plan, and its bounds.
NUMBERS = [
    ("tries", lambda number, part=A: ("again", number, 0, part), 1, 20),
    ("wait", lambda number, part=A: ("again", 1, number, part), 0, 100),
    ("limit", lambda number, part=A: ("within", number, part), 0, 200),
    ("ticks", lambda number, part=A: ("later", number, part), 0, 100),
    ("cost", lambda number, part=A: ("back", number, part), 0, MOST),
    ("tick", lambda number, part=A: ("watch", number, B, part), 0, 200),
]

# What can stand around a plan, and the path that leads to it.
AROUND = [
    (lambda part: ("order", [part]), (0,)), (lambda part: ("order", [A, part, B]), (1,)),
    (lambda part: ("other", [A, B, part]), (2,)), (lambda part: ("both", [A, part]), (1,)),
    (lambda part: ("race", [part, A]), (0,)), (lambda part: ("race", [A, part]), (1,)),
    (lambda part: ("again", 1, 0, part), (0,)), (lambda part: ("again", 5, 3, part), (0,)),
    (lambda part: ("within", 5, part), ()), (lambda part: ("later", 5, part), ()), (lambda part: ("keep", part), ()),
    (lambda part: ("easy", part), ()), (lambda part: ("back", 5, part), ()),
    (lambda part: ("watch", 5, part, A), (0,)), (lambda part: ("watch", 5, A, part), (1,)),
]

# No plans, in which nothing stands that could be one.
BROKEN = [
    *ANYTHING, "a", ("a",), ["task", "a"], ("task",), ("task", "d"), ("task", "A"), ("task", ""), ("task", "order"),
    ("task", None), ("task", True), ("task", ["a"]), ("task", ("a",)), ("task", b"a"), ("task", Twin()),
    ("task", "a", "b"), ("task", ["a"], "a"), ("Task", "a"), ("", "a"), (None, "a"), (True, "a"), (1, "a"),
    (["task"], "a"), (("task",), "a"), (b"task", "a"), (Twin(), "a"), ("a", "task"), ("nothing", []),
    *[(word,) for word in LIST_WORDS], *[(word, None) for word in LIST_WORDS], *[(word, ()) for word in LIST_WORDS],
    *[(word, (A, B)) for word in LIST_WORDS], *[(word, A) for word in LIST_WORDS], *[(word, A, B) for word in LIST_WORDS],
    *[(word, [A], [B]) for word in LIST_WORDS], *[[word, [A]] for word in LIST_WORDS],
    *[(word, {}) for word in LIST_WORDS], *[(word, {0: A}) for word in LIST_WORDS], *[(word, "") for word in LIST_WORDS],
    *[(word, 1, [A]) for word in LIST_WORDS], *[(word, range(0)) for word in LIST_WORDS],
    ("again",), ("again", 1), ("again", 1, 1), ("again", 1, A), ("again", A), ("again", 1, 1, A, A), ("again", 1, 1, 1, A),
    ("again", A, 1, 1), ["again", 1, 1, A], ("again", (1, 1), A), ("again", 1, A, 1),
    ("within",), ("within", 1), ("within", A), ("within", 1, A, A), ("within", A, 1), ("within", 1, 1, A),
    ["within", 1, A], ("later",), ("later", 1), ("later", A), ("later", 1, A, A), ("later", A, 1), ("later", 1, 1, A),
    ("keep",), ("keep", A, A), ("keep", 1, A), ["keep", A], ("easy",), ("easy", A, A), ("easy", 1, A), ("easy", A, 1),
    ("back",), ("back", 1), ("back", A), ("back", 1, A, A), ("back", A, 1), ("back", 1, 1, A),
    ("watch",), ("watch", 1), ("watch", 1, A), ("watch", A, A), ("watch", 1, A, A, A), ("watch", A, A, 1),
    ("watch", A, 1, A), ("watch", 1, 1, A, A), ["watch", 1, A, A], ("watch", 1, [A, A]),
]


def nested(many, inside=A):
    """Return a plan of so many levels."""
    for _ in range(many - 1):
        inside = ("order", [inside])
    return inside


class FormTest(unittest.TestCase):
    def fault(self, value, path):
        self.assertEqual(fault_of(TASKS, value), path, value)
        self.assertIs(is_plan(TASKS, value), False, value)
        for call in (names_in, task_paths, lambda tasks, plan: name_at(tasks, plan, None), size, span):
            with self.assertRaises(InvalidPlan, msg=repr(value)) as caught:
                call(TASKS, value)
            self.assertEqual(caught.exception.path, path)

    def right(self, value):
        self.assertIsNone(fault_of(TASKS, value), value)
        self.assertIs(is_plan(TASKS, value), True, value)

    def test_right_ones(self):
        for name in TASKS:
            self.right(("task", name))
        for word in LIST_WORDS:
            for parts in ([], [A], [A, A], [("order", []), B], [("race", [])] * 3):
                self.right((word, parts))
        for around, _ in AROUND:
            self.right(around(C))
            for further, _ in AROUND:
                self.right(further(around(B)))

    def test_bounds_of_numbers(self):
        for word, make, low, high in NUMBERS:
            for number in (low, low + 1, high - 1, high, (low + high) // 2):
                self.right(make(number))
            for number in (low - 1, high + 1, -high, 10 ** 59, -10 ** 59):
                self.fault(make(number), ())
            for number in (True, False, None, "1", (1,), [1], (1, 1), {}, (), Twin(), A):
                self.fault(make(number), ())

    def test_broken_values(self):
        for value in BROKEN:
            self.fault(value, ())

    def test_path_of_the_fault_at_each_place(self):
        for around, path in AROUND:
            for value in BROKEN:
                self.assertEqual(fault_of(TASKS, around(value)), path)
            for further, longer in AROUND:
                for value in (None, (), ("task", "d"), ("keep", A, A), [A], ("order", ()), ("within", 201, A)):
                    self.fault(further(around(value)), longer + path)

    def test_numbers_ahead_of_the_plans_behind_them(self):
        for word, make, low, high in NUMBERS:
            self.fault(make(high + 1, None), ())
            self.fault(("both", [A, make(low - 1, None), None]), (1,))
        self.fault(("watch", 201, None, None), ())

    def test_the_first_fault(self):
        bad = ("task", "d")
        self.fault(("order", [A, bad, bad]), (1,))
        self.fault(("order", [("order", [A, ("order", [A, bad])]), bad]), (0, 1, 1))
        self.fault(("order", [("keep", ("race", [A, A])), bad, None]), (1,))
        self.fault(("watch", 1, bad, bad), (0,))
        self.fault(("watch", 1, A, bad), (1,))
        self.fault(("watch", 1, ("both", [A, bad]), None), (0, 1))
        self.fault(("again", 20, 0, ("other", [A, ("again", 3, 0, bad), bad])), (0, 1, 0))
        self.fault(("keep", ("easy", ("back", 1, ("within", 2, ("later", 3, bad))))), ())
        self.fault(("keep", ("easy", ("order", [A, ("later", 3, bad)]))), (1,))

    def test_list_and_tuple(self):
        for word in LIST_WORDS:
            self.right((word, [A]))
            self.fault((word, (A,)), ())
            self.fault([word, [A]], ())
            self.fault((word, [list(A)]), (0,))
            self.fault((word, [[A]]), (0,))

    def test_number_of_plans(self):
        self.right(("order", [A] * 39))
        for many in (40, 41, 100, 500):
            self.fault(("order", [A] * many), (39,))
        self.right(("both", [("order", [A] * 18), ("order", [A] * 19)]))
        self.fault(("both", [("order", [A] * 18), ("order", [A] * 20)]), (1, 19))
        self.fault(("both", [("order", [A] * 37), A, A]), (2,))
        self.fault(("both", [("order", [A] * 37), A, A, None]), (2,))
        self.fault(("both", [("order", [A] * 37), None, A, A]), (1,))
        self.fault(("order", [A] * 39 + [None]), (39,))
        self.fault(("order", [A] * 38 + [None] * 2), (38,))
        self.right(("watch", 0, ("order", [A] * 37), A))
        self.fault(("watch", 0, ("order", [A] * 38), A), (1,))
        self.right(("watch", 0, A, ("order", [A] * 37)))
        self.fault(("watch", 0, A, ("order", [A] * 38)), (1, 37))
        self.right(("order", [("keep", A)] * 19 + [A]))
        self.fault(("order", [("keep", A)] * 20), (19,))
        self.right(("again", 20, 0, ("order", [A] * 38)))
        self.fault(("again", 1, 0, ("order", [A] * 39)), (0, 38))

    def test_number_of_levels(self):
        for many in range(1, 9):
            self.right(nested(many))
        for many in (9, 10, 20, 40):
            self.fault(nested(many), (0,) * 8)
        self.right(nested(8, ("order", [])))
        self.fault(nested(8, ("order", [A, None])), (0,) * 8)
        self.fault(nested(8, ("order", ())), (0,) * 7)
        for around, path in AROUND:
            eight = A
            for _ in range(7):
                eight = around(eight)
            self.right(eight)
            self.fault(around(eight), path * 7 + ((0,) if path else ()))
        self.right(("watch", 1, nested(7), nested(7)))
        self.fault(("watch", 1, nested(7), nested(8)), (1,) + (0,) * 7)
        self.fault(("watch", 1, nested(8), nested(8)), (0,) * 8)
        deep = ("keep", ("easy", ("back", 0, ("within", 0, ("later", 0, ("keep", ("easy", A)))))))
        self.right(deep)
        self.fault(("keep", deep), ())
        self.fault(("order", [A, deep]), (1,))

    def test_levels_and_numbers_together(self):
        self.fault(("order", [nested(8), None]), (0,) * 8)
        self.fault(("order", [A] * 32 + [nested(7), A]), (33,))
        self.fault(("order", [A] * 31 + [nested(8), A]), (31,) + (0,) * 7)
        self.fault(("order", [A] * 33 + [nested(7), A]), (33,) + (0,) * 6)

    def test_values_without_an_end(self):
        parts = [A]
        parts.append(("order", parts))
        self.fault(("order", parts), (1,) * 7 + (0,))

    def test_names_of_these_tasks_only(self):
        self.assertIs(is_plan({"a": sure()}, B), False)
        self.assertIs(is_plan({"b": sure()}, B), True)
        self.assertEqual(fault_of({"task": sure()}, ("order", [("task", "task"), A])), (1,))

    def test_by_name(self):
        self.assertIs(is_plan(value=A, tasks=TASKS), True)
        self.assertEqual(fault_of(value=None, tasks=TASKS), ())
        self.assertEqual(names_in(plan=A, tasks=TASKS), ["a"])
        self.assertEqual(task_paths(plan=A, tasks=TASKS), [()])
        self.assertEqual(name_at(path=(), plan=A, tasks=TASKS), "a")
        self.assertEqual((size(plan=A, tasks=TASKS), span(plan=A, tasks=TASKS)), (1, 2))


class ErrorsTest(unittest.TestCase):
    calls = [is_plan, fault_of, names_in, task_paths, size, span, lambda tasks, plan: name_at(tasks, plan, None)]

    def test_tasks_come_first(self):
        for call in self.calls:
            for plan in (A, None, ("task", "d"), ("again", 20, 0, ("order", [A] * 30))):
                for tasks, name in ((None, None), ({}, None), ({"b": 1, "a": sure()}, "b"), ([], None),
                                    ({"b": 1, "a": 2}, "a"), ({"order": sure()}, None)):
                    with self.assertRaises(InvalidTasks) as caught:
                        call(tasks, plan)
                    self.assertEqual(caught.exception.name, name)

    def test_too_large(self):
        cases = [
            (("again", 20, 0, ("both", [A] * 18)), None), (("again", 20, 0, ("both", [A] * 19)), 401),
            (("both", [("again", 19, 0, ("both", [A] * 19)), *[A] * 18]), None),
            (("again", 20, 0, ("again", 20, 0, A)), 421), (("again", 20, 0, ("again", 18, 0, ("keep", A))), 741),
            (("again", 20, 0, ("order", [A] * 18)), 720),
            (("again", 20, 0, ("again", 20, 0, ("again", 20, 0, ("again", 20, 0, A)))), 168421),
            (("order", [("later", 100, A)] * 3 + [("later", 92, A)]), None),
            (("order", [("later", 100, A)] * 3 + [("later", 93, A)]), 401),
            (("order", [LONG] * 13 + [("later", 8, A)]), None), (("order", [LONG] * 13 + [("later", 9, A)]), 401),
            (("watch", 200, ("later", 100, ("later", 98, A)), A), None),
            (("watch", 200, ("later", 100, ("later", 99, A)), A), 401),
            (("again", 20, 100, LONG), 2500), (("again", 20, 100, ("order", [LONG] * 19)), 401),
            (("within", 200, ("again", 20, 100, LONG)), None),
        ]
        for plan, number in cases:
            for call in (names_in, task_paths, lambda tasks, plan: name_at(tasks, plan, None)):
                with self.subTest(plan=plan):
                    try:
                        call(TASKS, plan)
                        found = None
                    except TooLarge as error:
                        found = error.number
                    except InvalidPath:
                        found = None
                    self.assertEqual(found, number)
            self.assertIs(is_plan(TASKS, plan), True)
            self.assertIsNone(fault_of(TASKS, plan))
            self.assertEqual(number is None, max(size(TASKS, plan), span(TASKS, plan)) <= 400)

    def test_size_comes_ahead_of_span(self):
        plan = ("again", 20, 100, ("order", [LONG] * 19))
        self.assertEqual((size(TASKS, plan), span(TASKS, plan)), (401, 13300))
        with self.assertRaises(TooLarge) as caught:
            task_paths(TASKS, plan)
        self.assertEqual(caught.exception.number, 401)

    def test_no_plan_comes_ahead_of_too_large(self):
        plan = ("order", [("again", 20, 100, ("again", 20, 0, A)), None])
        for call in (names_in, task_paths, lambda tasks, plan: name_at(tasks, plan, ())):
            with self.assertRaises(InvalidPlan) as caught:
                call(TASKS, plan)
            self.assertEqual(caught.exception.path, (1,))


class PathsTest(unittest.TestCase):
    def test_example(self):
        tasks = {"a": (4, 2, [(2, "done", (1, 1))])}
        plan = ("order", [("task", "a"), ("again", 2, 1, ("keep", ("task", "a")))])
        self.assertEqual(
            [task_paths(tasks, plan), size(tasks, plan), span(tasks, plan),
             fault_of(tasks, ("both", [plan, ("keep", ("task", "d"))]))],
            [[(0,), (1, 0), (1, 1)], 7, 7, (1,)])

    def test_names_in(self):
        for plan, names in [
            (("order", [C, B, A, B, C]), ["a", "b", "c"]), (("race", []), []), (LONG, ["long"]),
            (("watch", 1, C, ("again", 3, 0, B)), ["b", "c"]), (("keep", ("order", [LONG, B])), ["b", "long"]),
            (("both", [("other", []), ("easy", ("back", 1, C))]), ["c"]),
        ]:
            self.assertEqual(names_in(TASKS, plan), names)

    def test_task_paths_of_each_word(self):
        for plan, paths in [
            (A, [()]), (("keep", A), [()]), (("easy", A), [()]), (("back", 0, A), [()]), (("within", 0, A), [()]),
            (("later", 0, A), [()]), (("order", []), []), (("order", [A]), [(0,)]), (("race", [A, B]), [(0,), (1,)]),
            (("other", [("both", []), A, ("both", [A, A])]), [(1,), (2, 0), (2, 1)]),
            (("watch", 0, A, B), [(0,), (1,)]), (("watch", 0, ("order", []), B), [(1,)]),
            (("again", 1, 0, A), [(0,)]), (("again", 3, 9, A), [(0,), (1,), (2,)]), (("again", 3, 9, ("race", [])), []),
            (("again", 2, 0, ("watch", 1, A, ("keep", ("both", [A, B])))),
             [(0, 0), (0, 1, 0), (0, 1, 1), (1, 0), (1, 1, 0), (1, 1, 1)]),
        ]:
            self.assertEqual(task_paths(TASKS, plan), paths)

    def test_task_paths_ascend_as_numbers(self):
        self.assertEqual(task_paths(TASKS, ("both", [A] * 39)), [(index,) for index in range(39)])
        self.assertEqual(task_paths(TASKS, ("again", 20, 0, A)), [(index,) for index in range(20)])

    def test_tries_within_tries(self):
        plan = ("again", 3, 0, ("again", 2, 0, ("again", 4, 1, B)))
        paths = [(x, y, z) for x in range(3) for y in range(2) for z in range(4)]
        self.assertEqual(task_paths(TASKS, plan), paths)
        self.assertEqual([name_at(TASKS, plan, path) for path in paths], ["b"] * 24)
        for path in [(3, 0, 0), (0, 2, 0), (0, 0, 4), (0, 0), (0, 0, 0, 0), (-1, 0, 0), (0, 0, -1)]:
            with self.assertRaises(InvalidPath):
                name_at(TASKS, plan, path)

    def test_name_at(self):
        plan = ("order", [A, ("again", 2, 1, ("keep", B)), ("watch", 1, C, ("race", [LONG, A]))])
        names = {(0,): "a", (1, 0): "b", (1, 1): "b", (2, 0): "c", (2, 1, 0): "long", (2, 1, 1): "a"}
        self.assertEqual({path: name_at(TASKS, plan, path) for path in task_paths(TASKS, plan)}, names)
        self.assertEqual(name_at(TASKS, ("keep", C), ()), "c")

    def test_invalid_path(self):
        plan = ("order", [A, ("again", 2, 1, ("keep", B)), ("watch", 1, C, ("race", [LONG, A])), ("order", [])])
        nearly = [
            (), (1,), (2,), (3,), (4,), (-1,), (0, 0), (1, 2), (1, -1), (1, 0, 0), (2, 1), (2, 2), (2, 1, 2), (2, 0, 0),
            (3, 0), [0], [1, 0], [2, 1, 1], (False,), (True, 0), (1, False), (1, True), (2, True, 0), (2, 1, True),
            (2, True), "0", "", 0, 1, None, {}, {0: 1}, ((0,),), ([0],), ((1, 0),), (1, (0,)), ("0",), (None,), (0, None),
            (1, "0"), (10 ** 59,), (-10 ** 59,), range(1), (Twin(),), Twin(), (1, Twin()), (2, 1, [0]), b"", (b"0",),
        ]
        for path in [*nearly, *ANYTHING]:
            with self.assertRaises(InvalidPath, msg=repr(path)):
                name_at(TASKS, plan, path)
        for path in ([], None, 0, "", (0,), False, {}, [()], ((),)):
            with self.assertRaises(InvalidPath, msg=repr(path)):
                name_at(TASKS, C, path)

    def test_results_are_new_and_arguments_unchanged(self):
        tasks, plan = tasks_example(), ("order", [A, ("both", [B, C])])
        before = copy.deepcopy((tasks, plan))
        for call in (names_in, task_paths):
            first = call(tasks, plan)
            kept = list(first)
            self.assertIsNot(first, call(tasks, plan))
            first.clear()
            self.assertEqual(call(tasks, plan), kept)
        self.assertEqual([is_plan(tasks, plan), fault_of(tasks, plan), size(tasks, plan), span(tasks, plan)],
                         [True, None, 5, 5])
        self.assertEqual(name_at(tasks, plan, (1, 1)), "c")
        self.assertEqual((tasks, plan), before)
        paths = task_paths(tasks, plan)
        plan[1].clear()
        tasks.clear()
        self.assertEqual(paths, [(0,), (1, 0), (1, 1)])


class SizeAndSpanTest(unittest.TestCase):
    def told(self, plan, number, ticks):
        self.assertEqual((size(TASKS, plan), span(TASKS, plan)), (number, ticks), plan)

    def test_each_word(self):
        self.told(A, 1, 2)
        self.told(B, 1, 3)
        self.told(LONG, 1, 30)
        for word in LIST_WORDS:
            self.told((word, []), 1, 0)
            self.told((word, [A]), 2, 2)
        self.told(("order", [A, B, LONG]), 4, 35)
        self.told(("other", [A, B, LONG]), 4, 35)
        self.told(("both", [A, LONG, B]), 4, 30)
        self.told(("race", [A, LONG, B]), 4, 30)
        self.told(("again", 1, 50, B), 2, 3)
        self.told(("again", 2, 50, B), 3, 56)
        self.told(("again", 20, 0, B), 21, 60)
        self.told(("again", 3, 7, ("both", [B, A])), 10, 23)
        self.told(("within", 0, B), 2, 0)
        self.told(("within", 2, B), 2, 2)
        self.told(("within", 3, B), 2, 3)
        self.told(("within", 4, B), 2, 3)
        self.told(("later", 0, B), 2, 3)
        self.told(("later", 100, B), 2, 103)
        self.told(("keep", B), 2, 3)
        self.told(("easy", B), 2, 3)
        self.told(("back", MOST, B), 2, 3)
        self.told(("watch", 0, B, A), 3, 3)
        self.told(("watch", 0, A, B), 3, 3)
        self.told(("watch", 5, A, LONG), 3, 30)
        self.told(("watch", 28, A, LONG), 3, 30)
        self.told(("watch", 29, A, LONG), 3, 31)
        self.told(("watch", 200, ("order", []), ("order", [])), 3, 200)

    def test_above_400(self):
        self.told(("both", [("again", 19, 0, ("both", [A] * 19)), *[A] * 18]), 400, 38)
        self.told(("again", 20, 100, ("order", [LONG] * 38)), 1 + 20 * 39, 20 * 38 * 30 + 1900)
        number, ticks, plan = 1, 3, B
        for _ in range(7):
            plan, number, ticks = ("again", 20, 100, plan), 1 + 20 * number, 20 * ticks + 1900
        self.told(plan, number, ticks)
        self.told(("again", 4, 100, ("again", 3, 50, ("again", 2, 10, A))), 41, 4 * (3 * 14 + 100) + 300)


def some_plan(chance, levels):
    """Return a plan of at most so many levels."""
    words = ["task", "order", "other", "both", "race", "again", "within", "later", "keep", "easy", "back", "watch"]
    word = chance.choice(words) if levels > 1 else "task"
    inner = [some_plan(chance, levels - 1) for _ in range(chance.randint(0, 3))] if levels > 1 else []
    part = some_plan(chance, levels - 1) if levels > 1 else None
    if word == "task":
        return (word, chance.choice(sorted(TASKS)))
    if word in LIST_WORDS:
        return (word, inner)
    if word == "again":
        return (word, chance.randint(1, 4), chance.randint(0, 5), part)
    if word in ("within", "later", "back"):
        return (word, chance.randint(0, 60), part)
    if word == "watch":
        return (word, chance.randint(0, 30), some_plan(chance, levels - 1), part)
    return (word, part)


def unrolled(plan, path=()):
    """Return all (path, plan) in a plan, it and all tries included, as the document words it."""
    found = [(path, plan)]
    if plan[0] in LIST_WORDS:
        for index, part in enumerate(plan[1]):
            found += unrolled(part, (*path, index))
    elif plan[0] == "again":
        for index in range(plan[1]):
            found += unrolled(plan[3], (*path, index))
    elif plan[0] == "watch":
        found += unrolled(plan[2], (*path, 0)) + unrolled(plan[3], (*path, 1))
    elif plan[0] != "task":
        found += unrolled(plan[-1], path)
    return found


class ManyPlansTest(unittest.TestCase):
    def test_against_a_list_of_all_plans_within(self):
        chance = random.Random(7)
        right = 0
        for _ in range(1500):
            plan = some_plan(chance, chance.randint(1, 6))
            found = unrolled(plan)
            if fault_of(TASKS, plan) is not None:
                continue
            self.assertEqual(size(TASKS, plan), len(found))
            if max(size(TASKS, plan), span(TASKS, plan)) <= 400:
                right += 1
                named = sorted((path, one[1]) for path, one in found if one[0] == "task")
                self.assertEqual(task_paths(TASKS, plan), [path for path, _ in named])
                self.assertEqual(names_in(TASKS, plan), sorted({name for _, name in named}))
                for path, name in named[:20]:
                    self.assertEqual(name_at(TASKS, plan, path), name)
        self.assertGreater(right, 700)


if __name__ == "__main__":
    unittest.main()
