"""Tests of prepaidplans.contexts: [17], [33], [34]."""

import copy
import unittest

from oracle import pair
from prepaidplans.contexts import are_alike, in_context, parting
from prepaidplans.errors import InvalidKind, InvalidPlan, InvalidTick, PlanError, TooLarge
from prepaidplans.means import chance, mean_end, mean_lost, mean_money, rows_of
from prepaidplans.plans import is_plan, size, span
from samples import samples
from values import (
    A, ANYTHING, B, C, SIZE_400, SIZE_401, SIZE_421_AND_SPAN, SPAN_400, SPAN_401, check_first_errors, large_tasks, sure,
    tasks_example,
)

KINDS = ["done", "ended", "money", "lost", "undone", "lostundone"]
TASKS = {**tasks_example(), "n": (5, 7, [(2, "failed", (1, 1))]), "d": (4, None, tasks_example()["a"][2])}
N, D = ("task", "n"), ("task", "d")
PLAN = ("order", [A, B])

CONTEXTS = {
    "done": lambda tasks, tick, plan: chance(tasks, ("within", tick, plan)),
    "ended": lambda tasks, tick, plan: chance(tasks, ("within", tick, ("easy", plan))),
    "money": lambda tasks, tick, plan: mean_money(tasks, ("within", tick, plan)),
    "lost": lambda tasks, tick, plan: mean_lost(tasks, ("within", tick, plan)),
    "undone": lambda tasks, tick, plan: mean_money(tasks, ("order", [("within", tick, plan), ("other", [])])),
    "lostundone": lambda tasks, tick, plan: mean_lost(tasks, ("order", [("within", tick, plan), ("other", [])])),
}

# Larger plans around a part.
AROUND = [
    lambda part: ("order", [C, part, B]), lambda part: ("order", [part, N]), lambda part: ("other", [part, C]),
    lambda part: ("both", [part, B]), lambda part: ("race", [B, part, A]), lambda part: ("again", 3, 1, part),
    lambda part: ("within", 1, part), lambda part: ("within", 3, ("order", [part, D])),
    lambda part: ("watch", 1, part, B), lambda part: ("order", [("watch", 1, B, part), N]),
    lambda part: ("order", [("back", 7, part), B]), lambda part: ("order", [("easy", part), ("keep", part), N]),
    lambda part: ("later", 2, ("order", [D, part])),
]

# Plans that are alike though they are written otherwise.
ALIKE = [
    [A, ("order", [A]), ("other", [A]), ("both", [A]), ("race", [A]), ("again", 1, 9, A), ("within", 2, A),
     ("order", [("order", []), A, ("order", [])]), ("other", [("other", []), A]), ("both", [("order", []), A]),
     ("race", [("other", []), A]), ("later", 0, A), ("watch", 2, C, A), ("watch", 0, ("order", []), A)],
    [("order", [A, ("order", [B, C])]), ("order", [("order", [A, B]), C]), ("order", [A, B, C])],
    [("both", [A, B, C]), ("both", [C, A, B]), ("both", [("both", [C, B]), A])],
    [("later", 5, A), ("later", 2, ("later", 3, A)), ("order", [("later", 5, ("order", [])), A])],
    [("within", 1, ("order", [A, C])), ("within", 3, ("within", 1, ("order", [A, C])))],
    [("keep", D), ("keep", ("keep", D)), ("back", 0, D), ("back", 0, ("back", 9, D))],
    [("easy", A), ("easy", ("easy", A))], [("again", 3, 2, D), ("other", [D, ("later", 2, D), ("later", 2, D)])],
    [("order", []), ("both", []), ("easy", ("other", [])), ("again", 20, 1, ("order", []))],
    [("other", []), ("race", []), ("order", [("other", []), A]), ("within", 5, ("other", []))],
]

# Plans that differ, with the first context that tells it and the two numbers in it.
DIFFER = [
    (A, D, "undone", 2, (5, 1), (4, 1)),
    (A, N, "money", 0, (4, 1), (5, 1)),
    # Only when the plan is done, how much stands, or what is lost, tells these apart.
    (("keep", A), A, "undone", 2, (4, 1), (5, 1)),
    (("keep", C), C, "lostundone", 1, (0, 1), (1, 1)),
    (("keep", C), ("back", 3, C), "undone", 1, (2, 1), (5, 1)),
    (A, ("easy", A), "done", 1, (0, 1), (1, 2)),
    (("other", []), ("order", []), "done", 0, (0, 1), (1, 1)),
    (("later", 1, ("other", [])), ("other", []), "ended", 0, (0, 1), (1, 1)),
    (("later", 3, ("order", [])), ("later", 2, ("order", [])), "done", 2, (0, 1), (1, 1)),
    (("within", 1, A), ("within", 2, A), "ended", 1, (1, 1), (1, 2)),
    (("watch", 1, C, A), A, "money", 1, (5, 1), (4, 1)),
    (("watch", 1, ("order", [C, N]), ("later", 9, ("order", []))),
     ("watch", 1, ("both", [N, ("back", 0, C)]), ("later", 9, ("order", []))), "lost", 1, (1, 1), (0, 1)),
    (("both", [A, A]), ("order", [A, A]), "money", 0, (8, 1), (4, 1)),
    # The winner of two that are done at once is the first one.
    (("race", [A, ("later", 1, C)]), ("race", [("later", 1, C), A]), "money", 2, (6, 1), (7, 1)),
]


class InContextTest(unittest.TestCase):
    def test_example(self):
        self.assertEqual(in_context(TASKS, PLAN, "undone", 2), (11, 2))

    def test_by_hand(self):
        told = [
            # PLAN: a costs 4 at 0, is paid 2 and followed by b for 1 at 2 in 1/2, b is paid 3 at 3 in 3/8.
            (0, [(0, 1), (0, 1), (4, 1), (0, 1), (4, 1), (0, 1)]), (1, [(0, 1), (1, 2), (4, 1), (0, 1), (4, 1), (0, 1)]),
            (2, [(0, 1), (1, 2), (11, 2), (0, 1), (11, 2), (0, 1)]),
            (3, [(3, 8), (7, 8), (19, 4), (0, 1), (53, 8), (0, 1)]), (4, [(3, 8), (7, 8), (19, 4), (0, 1), (53, 8), (0, 1)]),
            (5, [(3, 8), (1, 1), (19, 4), (0, 1), (53, 8), (0, 1)]), (400, [(3, 8), (1, 1), (19, 4), (0, 1), (53, 8), (0, 1)]),
        ]
        for tick, numbers in told:
            self.assertEqual([in_context(TASKS, PLAN, kind, tick) for kind in KINDS], numbers, tick)
        lost = [(0, [(0, 1), (0, 1), (2, 1), (0, 1), (2, 1), (0, 1)]), (1, [(1, 1), (1, 1), (2, 1), (0, 1), (2, 1), (1, 1)])]
        for tick, numbers in lost:
            self.assertEqual([in_context(TASKS, C, kind, tick) for kind in KINDS], numbers, tick)
        self.assertEqual(in_context(TASKS, ("order", [C, C]), "lost", 1), (1, 1))

    def test_as_the_means_of_the_context(self):
        plans = [(TASKS, plan) for plans in ALIKE for plan in plans] + [(TASKS, one) for one, *_ in DIFFER]
        for tasks, plan in plans + samples(41, 25, 10 ** 5):
            last = span(tasks, plan)
            for tick in sorted({0, 1, 2, 4, max(last - 1, 0), last, last + 1}):
                for kind in KINDS:
                    within = CONTEXTS[kind](tasks, tick, plan)
                    self.assertEqual(in_context(tasks, plan, kind, tick), within, (tasks, plan, kind, tick))

    def test_late_ticks(self):
        tasks = large_tasks()
        for tick, numbers in [(0, [0, 0, 0, 0, 0, 0]), (10, [0, 0, 1, 0, 1, 0]), (40, [0, 0, 3, 0, 3, 0]),
                              (201, [0, 0, 13, 0, 13, 0]), (399, [0, 0, 25, 0, 25, 0]), (400, [1, 1, 13, 0, 26, 0])]:
            self.assertEqual([in_context(tasks, SPAN_400, kind, tick) for kind in KINDS], [pair(one) for one in numbers])
        self.assertEqual([in_context(tasks, SIZE_400, kind, 400) for kind in KINDS],
                         [pair(one) for one in (1, 1, 20, 0, 40, 0)])

    def test_contexts_that_are_larger_than_plans(self):
        # 40 plans, and eight within one another: the context would be too many and too deep.
        deep = A
        for _ in range(7):
            deep = ("keep", deep)
        full = ("order", [A] * 39)
        for plan in (deep, full):
            self.assertTrue(is_plan(TASKS, plan))
            self.assertFalse(is_plan(TASKS, ("order", [("within", 9, plan), ("other", [])])))
            self.assertEqual(in_context(TASKS, plan, "undone", 0), (4, 1))
        self.assertEqual(in_context(TASKS, full, "ended", 1), (1, 2))
        self.assertEqual(in_context(TASKS, deep, "done", 2), (1, 2))

    def test_sides(self):
        # What is open at the limit is stopped; a side that begins at the limit itself counts whole.
        plan = ("watch", 2, ("order", [C, N]), ("later", 5, A))
        for tick, numbers in [(1, [0, 0]), (2, [7, 1]), (4, [7, 1]), (5, [11, 1])]:
            self.assertEqual([in_context(TASKS, plan, kind, tick) for kind in ("money", "lost")],
                             [pair(one) for one in numbers])

    def test_wrong_kinds_and_ticks(self):
        for kind in ANYTHING + ["Done", "done ", "other", "within", "lost undone", b"done", ["done"], ("done",)]:
            for tick in (0, 401, None):
                with self.assertRaises(InvalidKind, msg=repr(kind)):
                    in_context(TASKS, A, kind, tick)
        for tick in [value for value in ANYTHING if value is True or value is False or value not in (0, 1)]:
            with self.assertRaises(InvalidTick, msg=repr(tick)):
                in_context(TASKS, A, "done", tick)
        for tick in (-1, 401, 10 ** 59, "0", None, True, False, (0,), [0]):
            for kind in KINDS:
                with self.assertRaises(InvalidTick, msg=repr(tick)):
                    in_context(TASKS, A, kind, tick)

    def test_first_errors(self):
        for kind, tick in [("done", 0), (None, 0), ("done", None)]:
            check_first_errors(self, lambda tasks, plan: in_context(tasks, plan, kind, tick))


class PartingTest(unittest.TestCase):
    def test_example(self):
        self.assertIs(are_alike(TASKS, PLAN, ("order", [PLAN, ("order", [])])), True)
        self.assertEqual(parting(TASKS, PLAN, ("order", PLAN[1][::-1])), ("money", 0, (4, 1), (1, 1)))

    def test_alike(self):
        for plans in ALIKE:
            for other in plans:
                self.assertIs(are_alike(TASKS, plans[0], other), True, other)
                self.assertIs(are_alike(TASKS, other, plans[0]), True, other)
                self.assertIsNone(parting(TASKS, plans[0], other))
                self.assertEqual(rows_of(TASKS, plans[0]), rows_of(TASKS, other))

    def test_alike_ones_can_be_exchanged(self):
        for plans in ALIKE:
            for around in AROUND:
                told = {tuple(call(TASKS, around(plan)) for call in (chance, mean_end, mean_money, mean_lost))
                        for plan in plans}
                self.assertEqual(len(told), 1, plans)

    def test_different_ones(self):
        for one, other, kind, tick, first, second in DIFFER:
            self.assertIs(are_alike(TASKS, one, other), False)
            self.assertEqual(parting(TASKS, one, other), (kind, tick, first, second))
            self.assertEqual(parting(TASKS, other, one), (kind, tick, second, first))

    def test_first_of_all_contexts(self):
        plans = [plan for plans in ALIKE for plan in plans[:2]] + [one for one, *_ in DIFFER]
        places = [(tick, kind) for tick in range(12) for kind in KINDS]
        numbers = [[in_context(TASKS, plan, kind, tick) for tick, kind in places] for plan in plans]
        for one, ones in zip(plans, numbers):
            for other, others in zip(plans, numbers):
                different = [(kind, tick, *both) for (tick, kind), *both in zip(places, ones, others) if both[0] != both[1]]
                self.assertEqual(parting(TASKS, one, other), different[0] if different else None, (one, other))
                self.assertEqual(are_alike(TASKS, one, other), rows_of(TASKS, one) == rows_of(TASKS, other))

    def test_late_difference(self):
        tasks = large_tasks()
        later = ("order", [("later", 9, ("order", [B] * 13)), ("later", 1, ("order", []))])
        self.assertEqual(parting(tasks, SPAN_400, later), ("money", 9, (0, 1), (1, 1)))
        plans = [("order", [("later", 100, ("order", [])) for _ in range(4)] + [end]) for end in (("order", []), ("other", []))]
        self.assertEqual(parting(tasks, *plans), ("done", 400, (1, 1), (0, 1)))

    def test_tasks_that_are_alike(self):
        # The name of a task, and an end that costs nothing, tell nothing.
        tasks = {"a": sure(tick=3), "b": sure(tick=3), "c": (1, 1, [(3, "done", (999, 1000)), (3, "failed", (1, 1000))])}
        self.assertTrue(are_alike(tasks, A, B))
        self.assertEqual(parting(tasks, A, C), ("done", 3, (1, 1), (999, 1000)))

    def test_errors(self):
        for call in (are_alike, parting):
            check_first_errors(self, lambda tasks, plan: call(tasks, plan, A))
            check_first_errors(self, lambda tasks, plan: call(tasks, plan, None))
            check_first_errors(self, lambda tasks, plan: call(tasks, A, plan))
            for plan, other, error, field in [
                (SIZE_401, None, TooLarge, 401), (None, SIZE_401, InvalidPlan, ()), (A, SPAN_401, TooLarge, 401),
                (A, SIZE_421_AND_SPAN, TooLarge, 421), (B, ("both", [A, ("keep", 1)]), InvalidPlan, (1,)),
            ]:
                with self.assertRaises(error) as caught:
                    call(large_tasks(), plan, other)
                self.assertEqual(list(vars(caught.exception).values()), [field])
        for value in ANYTHING:
            with self.assertRaises(PlanError):
                are_alike(TASKS, A, value)


class ArgumentsTest(unittest.TestCase):
    def test_by_name(self):
        self.assertEqual(in_context(tick=2, kind="undone", plan=PLAN, tasks=TASKS), (11, 2))
        self.assertIs(are_alike(other=A, plan=A, tasks=TASKS), True)
        self.assertEqual(parting(other=C, plan=A, tasks=TASKS), parting(TASKS, A, C))

    def test_arguments_stay(self):
        tasks = tasks_example()
        plans = [("order", [A, ("watch", 1, ("both", [C]), B)]), ("race", [A, ("again", 2, 1, C)])]
        before = copy.deepcopy((tasks, plans))
        in_context(tasks, plans[0], "money", 3)
        are_alike(tasks, *plans)
        parting(tasks, *plans)
        self.assertEqual((tasks, plans), before)

    def test_order_of_the_keys_of_tasks(self):
        turned = {name: TASKS[name] for name in sorted(TASKS, reverse=True)}
        self.assertEqual(in_context(turned, PLAN, "undone", 2), (11, 2))
        self.assertEqual(parting(turned, PLAN, C), parting(TASKS, PLAN, C))


if __name__ == "__main__":
    unittest.main()
