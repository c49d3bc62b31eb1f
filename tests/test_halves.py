"""Tests of prepaidplans.halves: [19], [41], [42]."""

import copy
import itertools
import random
import unittest

from oracle import Means
from prepaidplans.accounts import account
from prepaidplans.courses import all_courses, count_courses, is_course
from prepaidplans.errors import InvalidNames, InvalidTasks, NeverDone, TooMany
from prepaidplans.halves import apart_pairs, fewest_changes, half_course, is_safe, needed_undos
from prepaidplans.means import mean_lost
from prepaidplans.tasks import is_sure, with_task
from samples import samples
from values import (
    A, ANYTHING, SIZE_400, SPAN_400, Twin, check_first_errors, large_tasks, sure, tasks_example,
)

HALF = [(1, "done", (1, 2)), (2, "failed", (1, 2))]
SURE = [(1, "done", (1, 1))]
NEVER = [(2, "failed", (1, 1))]

# a and b can fail, c and d are sure, n and m are never done; of each two the second one cannot be undone.
TASKS = {
    "a": (1, 2, HALF), "b": (1, None, HALF), "c": (1, 2, SURE), "d": (1, None, SURE), "n": (1, 2, NEVER), "m": (1, None, NEVER),
    "e": (1, None, [(1, "done", (1, 3)), (3, "done", (1, 3)), (3, "failed", (1, 3))]),
}


def task(name):
    return ("task", name)


B, C, D, E, N, M = [task(name) for name in "bcdenm"]
FAIL, NOTHING = ("other", []), ("order", [])

# Plans, and the names of which a task can be lost in them.
NEEDED = [
    (D, []), (B, []), (M, []), (NOTHING, []), (("order", [D, D]), []), (("order", [D, A]), ["d"]), (("order", [A, D]), []),
    (("order", [B, D, A]), ["b", "d"]), (("order", [C, N]), []), (("order", [B, B]), ["b"]), (("other", [D, A]), []),
    (("other", [("order", [D, N]), D]), ["d"]), (("both", [D, A]), ["d"]), (("both", [A, D]), ["d"]), (("both", [B, M]), ["b"]),
    # What is stopped is not done, so it is not lost; what is done at the tick of the stop is.
    (("both", [B, ("later", 1, FAIL)]), ["b"]), (("both", [B, ("later", 0, FAIL)]), []), (("both", [E, N]), ["e"]),
    (("both", [("later", 2, B), N]), []), (("both", [("later", 1, B), N]), ["b"]),
    # The losers of a race: also those that are done at the tick at which it is done.
    (("race", [D, D]), ["d"]), (("race", [C, D]), ["d"]), (("race", [D, C]), []), (("race", [E, D]), ["d"]),
    (("race", [D, E]), ["e"]), (("race", [("later", 1, D), C]), []), (("race", [N, D]), []), (("race", [C, ("order", [B, D])]), ["b"]),
    (("race", [C, ("order", [("keep", B), D])]), []), (("race", [("later", 1, C), ("order", [B, D])]), ["b", "d"]),
    (("within", 1, D), []), (("within", 0, D), []), (("within", 2, ("order", [D, E])), ["d"]), (("within", 5, ("order", [D, C])), []),
    (("within", 1, ("order", [B, C])), ["b"]),
    (("again", 3, 0, B), []), (("again", 3, 1, ("order", [D, A])), ["d"]), (("order", [("again", 3, 1, B), A]), ["b"]),
    (("keep", ("order", [D, A])), ["d"]), (("order", [("keep", D), A]), []), (("order", [("keep", ("order", [D, B])), A]), ["d"]),
    (("order", [("back", 5, D), A]), []), (("back", 5, ("order", [D, A])), ["d"]), (("race", [("back", 0, D), ("keep", D)]), []),
    (("easy", ("order", [D, A])), ["d"]), (("order", [("easy", D), A]), ["d"]), (("order", [("easy", FAIL), D]), []),
    (("watch", 0, ("order", [D, A]), C), ["d"]), (("watch", 0, D, ("order", [C, N])), []), (("watch", 1, ("order", [D, A]), C), []),
    (("watch", 2, ("order", [D, N]), ("later", 1, C)), []), (("watch", 0, ("order", [D, N]), ("later", 1, C)), ["d"]),
    (("watch", 2, C, ("order", [D, A])), ["d"]), (("order", [("watch", 0, B, D), N]), ["d"]),
    (("watch", 0, ("race", [D, ("keep", D)]), C), []), (("watch", 0, ("race", [("keep", D), D]), C), ["d"]),
    (("later", 3, ("order", [D, A])), ["d"]),
]


class SafeTest(unittest.TestCase):
    def test_by_hand(self):
        for plan, names in NEEDED:
            self.assertEqual(needed_undos(TASKS, plan), names, plan)
            self.assertIs(is_safe(TASKS, plan), not names, plan)
            course = half_course(TASKS, plan)
            if names:
                self.assertGreater(account(TASKS, plan, course)[2], 0, plan)
            else:
                self.assertIsNone(course, plan)

    def test_against_all_runs(self):
        plans = [(TASKS, plan) for plan, _ in NEEDED] + samples(101, 250, 300)
        for tasks, plan in plans:
            worlds = [world for world, _ in Means(tasks, plan).worlds]
            losing = [world for world in worlds if world.lost()]
            about = (tasks, plan)
            self.assertIs(is_safe(tasks, plan), not losing, about)
            names = {inner.plan[1] for world in losing for *_, undo, inner in world.undone if undo is None}
            self.assertEqual(needed_undos(tasks, plan), sorted(names), about)
            course = half_course(tasks, plan)
            if not losing:
                self.assertIsNone(course, about)
                continue
            self.assertTrue(is_course(tasks, plan, course), about)
            self.assertGreater(account(tasks, plan, course)[2], 0, about)
            self.assertEqual(len(course), min(len(world.course()) for world in losing), about)

    def test_against_all_courses(self):
        for tasks, plan in samples(102, 60, 10 ** 6):
            if count_courses(tasks, plan) <= 300:
                lost = [len(course) for course in all_courses(tasks, plan) if account(tasks, plan, course)[2]]
                course = half_course(tasks, plan)
                self.assertEqual(course is None, not lost)
                self.assertTrue(course is None or len(course) == min(lost))

    def test_just_the_needed_ones_get_undo_costs(self):
        for tasks, plan in [(TASKS, plan) for plan, _ in NEEDED] + samples(103, 120, 10 ** 6):
            needed = needed_undos(tasks, plan)
            self.assertEqual(mean_lost(tasks, plan) == (0, 1), not needed)
            for left in [None, *needed]:
                changed = tasks
                for name in needed:
                    if name != left:
                        changed = with_task(changed, name, (tasks[name][0], 0, tasks[name][2]))
                self.assertIs(is_safe(changed, plan), left is None, (tasks, plan, left))

    def test_many_courses(self):
        side = ("both", [A] * 39)
        self.assertGreater(count_courses(TASKS, side), 10 ** 11)
        self.assertTrue(is_safe(TASKS, side))
        self.assertEqual(needed_undos(TASKS, side), [])
        mixed = ("both", [B] * 38)
        self.assertFalse(is_safe(TASKS, mixed))
        self.assertEqual(needed_undos(TASKS, ("order", [("both", [A] * 30), D, B, ("easy", E), N])), ["b", "d", "e"])
        for plan in (side, mixed, ("both", [A] * 11)):
            with self.assertRaises(TooMany) as caught:
                half_course(TASKS, plan)
            self.assertEqual(caught.exception.limit, 2000)

    def test_2000_and_2001_courses(self):
        fifth, half = [(tick, "done", (1, 5)) for tick in range(1, 6)], [(tick, "done", (1, 2)) for tick in (1, 2)]
        tasks = {"e": (1, None, fifth), "f": (1, None, half), "n": (1, 1, NEVER),
                 "g": (1, None, [(tick, "done", (1, 6)) for tick in range(1, 6)] + [(6, "failed", (1, 6))])}
        most = [task(name) for name in "eeeffff"]
        self.assertEqual(count_courses(tasks, ("order", most)), 2000)
        self.assertIsNone(half_course(tasks, ("order", most)))
        self.assertEqual(len(half_course(tasks, ("order", most + [N]))), 8)
        more = [task(name) for name in "geeffff"]
        self.assertEqual(count_courses(tasks, ("order", more)), 2001)
        for plan in (("order", more), ("order", more + [N])):
            with self.assertRaises(TooMany) as caught:
                half_course(tasks, plan)
            self.assertEqual(caught.exception.limit, 2000)
        self.assertTrue(is_safe(tasks, ("order", more)))
        self.assertEqual(needed_undos(tasks, ("order", more + [N])), ["e", "f", "g"])

    def test_large_plans(self):
        self.assertTrue(is_safe(large_tasks(), SIZE_400))
        self.assertIsNone(half_course(large_tasks(), SIZE_400))
        self.assertTrue(is_safe(large_tasks(), SPAN_400))
        tasks = {**large_tasks(), "a": (1, None, SURE)}
        self.assertEqual(needed_undos(tasks, ("order", [("again", 19, 0, ("order", [A] * 19)), FAIL])), ["a"])
        course = half_course(tasks, ("order", [("again", 10, 0, ("order", [A] * 20 + [FAIL])), A]))
        self.assertEqual(len(course), 200)

    def test_example(self):
        tasks = tasks_example()
        plan = ("order", [C, A])
        self.assertEqual(half_course(tasks, plan), [((0,), 0, 1, "done"), ((1,), 1, 2, "failed")])
        self.assertEqual(needed_undos(tasks, plan), ["c"])


def bad_pairs(tasks, names, changes=()):
    return [(i, j) for i, j in itertools.combinations(range(len(names)), 2)
            if tasks[names[i]][1] is None and not is_sure(tasks, names[j])
            and (i, "undo") not in changes and (j, "sure") not in changes]


class RowTest(unittest.TestCase):
    def test_example(self):
        tasks = tasks_example()
        self.assertEqual(fewest_changes(tasks, ["c", "a", "c"]), [(0, "undo")])
        self.assertEqual(apart_pairs(tasks, ["c", "a", "c"]), [(0, 1)])

    def test_by_hand(self):
        for names, changes in [
            ("", []), ("a", []), ("b", []), ("d", []), ("bb", [(0, "undo")]), ("ab", []), ("ba", [(0, "undo")]), ("ca", []),
            # As many at each end: "sure" comes ahead of "undo", and lesser indexes first.
            ("dda", [(2, "sure")]), ("daa", [(0, "undo")]), ("ddaa", [(0, "undo"), (1, "undo")]), ("dada", [(0, "undo"), (2, "undo")]),
            ("bbb", [(0, "undo"), (1, "undo")]), ("dddb", [(3, "sure")]), ("addad", [(3, "sure")]), ("bab", [(0, "undo")]),
            ("babab", [(0, "undo"), (2, "undo")]), ("dbd", [(0, "undo")]),
            ("bbbbbbbbbbbb", [(index, "undo") for index in range(11)]), ("dddddda" + "c" * 5, [(6, "sure")]),
        ]:
            self.assertEqual(fewest_changes(TASKS, list(names)), changes, names)
            self.check_pairs(list(names), len(changes))

    def check_pairs(self, names, many):
        pairs = apart_pairs(TASKS, names)
        self.assertIs(type(pairs), list)
        self.assertEqual(len(pairs), many, names)
        self.assertLessEqual(set(pairs), set(bad_pairs(TASKS, names)))
        for index in (0, 1):
            self.assertEqual(len({pair[index] for pair in pairs}), len(pairs))

    def test_against_all_sets_of_changes(self):
        chance = random.Random(104)
        for _ in range(250):
            names = chance.choices("abcde", k=chance.choice([2, 3, 4, 5, 6]))
            every = sorted([(index, word) for index in range(len(names)) for word in ("sure", "undo")])
            found = None
            for many in range(len(every) + 1):
                found = [list(changes) for changes in itertools.combinations(every, many)
                         if not bad_pairs(TASKS, names, changes)]
                if found:
                    break
            self.assertEqual(fewest_changes(TASKS, names), min(found), names)
            self.check_pairs(names, len(min(found)))

    def test_twelve(self):
        chance = random.Random(105)
        for _ in range(100):
            names = chance.choices("abcde", k=chance.choice([11, 12]))
            changes = fewest_changes(TASKS, names)
            self.assertEqual(bad_pairs(TASKS, names, changes), [])
            self.assertEqual(changes, sorted(changes))
            self.check_pairs(names, len(changes))

    def test_never_done(self):
        for call in (fewest_changes, apart_pairs):
            for name in "nm":
                for index in range(4):
                    names = list("dba")
                    names.insert(index, name)
                    with self.assertRaises(NeverDone) as caught:
                        call(TASKS, names + ["n", "a"])
                    self.assertEqual(caught.exception.index, index)

    def test_wrong_names(self):
        wrong = [value for value in ANYTHING if value != []] + [
            ("a", "b"), ["a"] * 13, ["n"] * 13, ["a", "x"], ["x"], ["A"], [""], ["order"], ["a", None], ["a", 0], [["a"]], "ab", {"a": 1},
            {"a"}, ["a", b"b"], [("a",)], ["n", "x"], [Twin()], ["a", Twin()], [True], ["a "],
        ]
        for call in (fewest_changes, apart_pairs):
            for value in wrong:
                with self.assertRaises(InvalidNames, msg=repr(value)):
                    call(TASKS, value)
            self.assertEqual(call(TASKS, []), [])

    def test_tasks_come_first(self):
        for call in (fewest_changes, apart_pairs):
            for tasks, name in [(None, None), ({}, None), ({"b": 1, "a": 2}, "a")]:
                for names in ([], None, ["a"]):
                    with self.assertRaises(InvalidTasks) as caught:
                        call(tasks, names)
                    self.assertEqual(caught.exception.name, name)


class ArgumentsTest(unittest.TestCase):
    def test_errors(self):
        for call in (is_safe, half_course, needed_undos):
            check_first_errors(self, call)

    def test_by_name(self):
        plan = ("order", [D, A])
        self.assertIs(is_safe(plan=plan, tasks=TASKS), False)
        self.assertEqual(len(half_course(plan=plan, tasks=TASKS)), 2)
        self.assertEqual(needed_undos(plan=plan, tasks=TASKS), ["d"])
        self.assertEqual(fewest_changes(names=["d", "a"], tasks=TASKS), [(0, "undo")])
        self.assertEqual(apart_pairs(names=["d", "a"], tasks=TASKS), [(0, 1)])

    def test_arguments_stay_and_results_are_new(self):
        tasks = {"d": (1, None, SURE), "a": (1, 2, HALF), "s": sure()}
        plan = ("order", [D, ("watch", 1, ("both", [task("s")]), A)])
        names = ["d", "d", "a", "a"]
        before = copy.deepcopy((tasks, plan, names))
        for call in (lambda: half_course(tasks, plan), lambda: needed_undos(tasks, plan), lambda: fewest_changes(tasks, names),
                     lambda: apart_pairs(tasks, names)):
            told = call()
            self.assertTrue(told)
            copied = list(told)
            told.clear()
            self.assertEqual(call(), copied)
        self.assertIs(is_safe(tasks, plan), False)
        self.assertEqual((tasks, plan, names), before)

    def test_order_of_the_keys_of_tasks(self):
        turned = {name: TASKS[name] for name in sorted(TASKS, reverse=True)}
        plan = ("order", [B, D, ("race", [E, D]), A])
        self.assertEqual(needed_undos(turned, plan), ["b", "d", "e"])
        self.assertEqual(half_course(turned, plan), half_course(TASKS, plan))


if __name__ == "__main__":
    unittest.main()
