"""Tests of prepaidplans.accounts: [13], [14], [15], [28], [29]."""

import copy
import unittest

from oracle import World, all_fates, paths_of
from prepaidplans.accounts import account, kept, money_of, standing, undone
from prepaidplans.courses import all_courses, course_of
from prepaidplans.errors import InvalidCourse
from samples import samples
from values import (
    A, ANYTHING, B, C, D, FREE, SIZE_400, SPAN_400, check_first_errors, fates_of, large_tasks, tasks_example,
)

# A plan, fates, and what comes of it: (paid, returned, lost), what is undone, what stands, and what is kept.
# The tasks cost 1, 2, 4 and 8, and to undo 10, 20 and 40; d cannot be undone.
TOLD = [
    # Tasks that are done, that fail, and that are stopped.
    (A, "d2", (11, 10, 0), [], [()], []),
    (A, "f2", (1, 0, 0), [], [], []),
    (D, "d2", (8, 0, 0), [], [()], []),
    (("within", 1, A), "d2", (1, 0, 0), [], [], []),
    (("order", []), "", (0, 0, 0), [], [], []),
    # Behind a failure.
    (("order", [A, B]), "d1 d2", (33, 30, 0), [], [(0,), (1,)], []),
    (("order", [A, B]), "d1 f2", (13, 0, 0), [(3, (0,))], [], []),
    (("order", [A, B, C]), "d1 d1 f1", (37, 0, 0), [(3, (1,)), (3, (0,))], [], []),
    (("order", [A, ("other", [])]), "d1", (11, 0, 0), [(1, (0,))], [], []),
    # What cannot be undone is lost, and costs nothing then.
    (("order", [A, D, B]), "d1 d1 f1", (21, 0, 1), [(3, (1,)), (3, (0,))], [], []),
    (("order", [D, D, B]), "d1 d1 f1", (18, 0, 2), [(3, (1,)), (3, (0,))], [], []),
    (("order", [D, B]), "d1 d1", (30, 20, 0), [], [(0,), (1,)], []),
    # Ways and tries that fail are undone when they do.
    (("other", [("order", [A, B]), C]), "d1 f1 d2", (57, 40, 0), [(2, (0, 0))], [(1,)], []),
    (("other", [("order", [A, B]), C]), "d1 f1 f2", (17, 0, 0), [(2, (0, 0))], [], []),
    (("again", 2, 1, ("order", [A, B])), "d1 f1 d1 d1", (46, 30, 0), [(2, (0, 0))], [(1, 0), (1, 1)], []),
    (("again", 2, 1, ("order", [A, B])), "d1 f1 d1 f1", (26, 0, 0), [(2, (0, 0)), (5, (1, 0))], [], []),
    # Behind a stop: by a both, by a limit, by a race.
    (("both", [A, B]), "d1 f3", (13, 0, 0), [(3, (0,))], [], []),
    (("both", [A, B]), "d2 f2", (13, 0, 0), [(2, (0,))], [], []),
    (("both", [A, B]), "d3 f2", (3, 0, 0), [], [], []),
    (("both", [A, B]), "d1 d3", (33, 30, 0), [], [(0,), (1,)], []),
    (("both", [("order", [A, B]), C]), "d1 d3 f2", (17, 0, 0), [(2, (0, 0))], [], []),
    (("within", 3, ("order", [A, B])), "d1 d4", (13, 0, 0), [(3, (0,))], [], []),
    (("within", 3, ("order", [A, B])), "d1 d2", (33, 30, 0), [], [(0,), (1,)], []),
    (("within", 3, ("order", [A, D, B])), "d1 d1 d4", (21, 0, 1), [(3, (1,)), (3, (0,))], [], []),
    (("race", [("order", [A, B]), C]), "d1 d2 d2", (57, 40, 0), [(2, (0, 0))], [(1,)], []),
    # At one tick by descending end, then by descending path, whatever it is undone by.
    (("both", [A, B, C]), "d1 d1 f2", (37, 0, 0), [(2, (1,)), (2, (0,))], [], []),
    (("both", [A, B, C]), "d2 d1 f2", (37, 0, 0), [(2, (0,)), (2, (1,))], [], []),
    (("both", [("order", [A, B]), ("order", [C, D])]), "d2 d1 d3 f1", (85, 0, 0),
     [(4, (1, 0)), (4, (0, 1)), (4, (0, 0))], [], []),
    (("both", [("race", [A, B]), ("order", [C, D])]), "d2 d2 d1 f1", (85, 0, 0), [(2, (0, 1)), (2, (0, 0)), (2, (1, 0))],
     [], []),
    # Losers of a race: also those that are done at the same tick.
    (("race", [A, B]), "d2 d2", (33, 10, 0), [(2, (1,))], [(0,)], []),
    (("race", [A, B, C]), "f1 d2 d2", (67, 20, 0), [(2, (2,))], [(1,)], []),
    (("race", [A, B, C]), "d2 d2 d2", (77, 10, 0), [(2, (2,)), (2, (1,))], [(0,)], []),
    (("race", [A, D]), "d2 d2", (19, 10, 1), [(2, (1,))], [(0,)], []),
    (("race", [A, B]), "d3 d2", (23, 20, 0), [], [(1,)], []),
    (("race", [A, B]), "f3 f2", (3, 0, 0), [], [], []),
    (("race", [("keep", A), B]), "d2 d2", (33, 10, 0), [(2, (1,))], [], [(0,)]),
    (("race", [A, ("keep", B)]), "d2 d2", (33, 30, 0), [], [(0,)], [(1,)]),
    (("race", [A, ("back", 5, B)]), "d2 d2", (38, 30, 0), [(2, (1,))], [(0,)], []),
    (("race", [("order", []), A]), "d1", (1, 0, 0), [], [], []),
    (("order", [("race", [A, B]), C]), "d2 d2 f1", (37, 0, 0), [(2, (0, 1)), (3, (0, 0))], [], []),
    # keep
    (("order", [("keep", A), B]), "d1 f1", (13, 10, 0), [], [], [(0,)]),
    (("keep", ("order", [A, B])), "d1 d1", (33, 30, 0), [], [], [(0,), (1,)]),
    (("keep", ("order", [A, B])), "d1 f1", (13, 0, 0), [(2, (0,))], [], []),
    (("order", [("keep", D), B]), "d1 f1", (10, 0, 0), [], [], [(0,)]),
    (("both", [("keep", A), B]), "d2 f2", (13, 10, 0), [], [], [(0,)]),
    (("both", [("keep", ("order", [A, B])), C]), "d1 d3 f2", (17, 0, 0), [(2, (0, 0))], [], []),
    (("keep", ("race", [A, B])), "d2 d2", (33, 10, 0), [(2, (1,))], [], [(0,)]),
    (("keep", ("order", [])), "", (0, 0, 0), [], [], []),
    (("keep", ("keep", A)), "d1", (11, 10, 0), [], [], [()]),
    (("other", [("order", [("keep", A), B]), C]), "d1 f1 d1", (57, 50, 0), [], [(1,)], [(0, 0)]),
    # back
    (("back", 7, A), "d1", (18, 17, 0), [], [()], []),
    (("back", 7, A), "f1", (1, 0, 0), [], [], []),
    (("order", [("back", 7, A), B]), "d1 f2", (20, 10, 0), [(3, (0,))], [], []),
    (("order", [("back", 7, ("order", [A, B])), C]), "d1 d1 f1", (44, 30, 0), [(3, (0,))], [], []),
    (("order", [("back", 7, ("order", [A, B])), C]), "d1 d1 d1", (84, 77, 0), [], [(0,), (1,)], []),
    (("back", 7, ("order", [A, B])), "d1 f1", (13, 0, 0), [(2, (0,))], [], []),
    (("order", [("back", 7, D), A]), "d1 f1", (16, 0, 0), [(2, (0,))], [], []),
    (("both", [("back", 7, A), B]), "d2 f2", (20, 10, 0), [(2, (0,))], [], []),
    (("both", [("back", 7, ("order", [A, B])), C]), "d1 d3 f2", (17, 0, 0), [(2, (0, 0))], [], []),
    # Around nothing.
    (("order", [("back", 7, ("order", [])), A]), "f2", (8, 0, 0), [(2, (0,))], [], []),
    (("back", 7, ("easy", A)), "f2", (8, 7, 0), [], [()], []),
    # Around a keep, within a keep, and within a back.
    (("order", [("back", 7, ("keep", A)), B]), "d1 f1", (20, 10, 0), [(2, (0,))], [], [(0,)]),
    (("order", [("keep", ("back", 7, A)), B]), "d1 f1", (20, 17, 0), [], [], [(0,)]),
    (("keep", ("back", 7, ("keep", A))), "d1", (18, 17, 0), [], [], [()]),
    (("order", [("back", 3, ("back", 7, A)), B]), "d1 f1", (23, 17, 0), [(2, (0,))], [], []),
    # The end of a back is the tick at which its part is done.
    (("both", [("back", 7, ("order", [A, B])), C, D]), "d1 d2 d2 f4", (92, 30, 0), [(4, (0,)), (4, (1,))], [], []),
    (("both", [("back", 7, ("order", [A, B])), C, D]), "d1 d1 d2 f4", (92, 30, 0), [(4, (1,)), (4, (0,))], [], []),
    # easy
    (("order", [("easy", ("order", [A, B])), C]), "d1 f1 d1", (57, 40, 0), [(2, (0, 0))], [(1,)], []),
    (("order", [("easy", A), B]), "d1 f1", (13, 0, 0), [(2, (0,))], [], []),
    (("easy", ("order", [A, B])), "d1 d1", (33, 30, 0), [], [(0,), (1,)], []),
    # Sides: kept when done, undone when they fail, whatever the plan does. Their fates come first.
    (("watch", 1, B, A), "d2 d3", (33, 30, 0), [], [(1,)], [(0,)]),
    (("watch", 1, B, A), "d2 f3", (23, 20, 0), [], [], [(0,)]),
    (("watch", 1, B, A), "f2 d3", (13, 10, 0), [], [(1,)], []),
    (("watch", 3, B, A), "d2 d3", (11, 10, 0), [], [(1,)], []),
    (("watch", 1, ("order", [B, C]), A), "d1 f2 f2", (27, 0, 0), [(4, (0, 0))], [], []),
    (("watch", 1, ("order", [B, C]), A), "d1 d4 d3", (77, 70, 0), [], [(1,)], [(0, 0), (0, 1)]),
    (("watch", 1, B, ("order", [A, C])), "d1 d2 f1", (37, 20, 0), [(3, (1, 0))], [], [(0,)]),
    (("watch", 1, ("order", [D, C]), A), "d1 f2 d2", (23, 10, 1), [(4, (0, 0))], [(1,)], []),
    (("both", [("watch", 1, B, A), C]), "d4 d3 f2", (27, 20, 0), [], [], [(0, 0)]),
    (("both", [("watch", 1, ("order", [B, D]), A), C]), "d1 f4 d2 f3", (45, 0, 0), [(3, (0, 1)), (6, (0, 0, 0))], [], []),
    (("race", [("watch", 1, B, A), C]), "d1 d2 d2", (77, 30, 0), [(2, (1,))], [(0, 1)], [(0, 0)]),
    # What stands in a side is not kept or covered around it.
    (("keep", ("watch", 1, ("order", [B, C]), A)), "d1 f3 d3", (37, 10, 0), [(5, (0, 0))], [], [(1,)]),
    (("back", 7, ("watch", 1, ("order", [B, C]), A)), "d1 f3 d3", (44, 17, 0), [(5, (0, 0))], [()], []),
    (("watch", 1, ("back", 7, B), A), "d1 d3", (40, 37, 0), [], [(1,)], [(0,)]),
    (("watch", 1, ("watch", 1, C, ("order", [B, D])), A), "d1 d1 f3 d2", (85, 50, 0), [(5, (0, 1, 0))], [(1,)],
     [(0, 0)]),
]


class ToldTest(unittest.TestCase):
    def test_told(self):
        for plan, told, amounts, undoings, stands, keepings in TOLD:
            course = course_of(FREE, plan, fates_of(plan, told))[2]
            about = (plan, told)
            self.assertEqual(account(FREE, plan, course), amounts, about)
            self.assertEqual(money_of(FREE, plan, course), amounts[0] - amounts[1], about)
            self.assertEqual(undone(FREE, plan, course), undoings, about)
            self.assertEqual(standing(FREE, plan, course), stands, about)
            self.assertEqual(kept(FREE, plan, course), keepings, about)

    def test_large_amounts(self):
        most = 10 ** 12
        tasks = {"a": (most, most, [(1, "done", (1, 2)), (1, "failed", (1, 2))])}
        plan = ("order", [("back", most, A)] * 19)
        course = course_of(tasks, plan, fates_of(plan, "d1 " * 18 + "f1"))[2]
        self.assertEqual(account(tasks, plan, course), (55 * most, 18 * most, 0))
        self.assertEqual(money_of(tasks, plan, course), 37 * most)

    def test_large_plans(self):
        tasks = {"a": (3, None, [(1, "failed", (1, 2)), (2, "done", (1, 2))])}
        plan = ("again", 10, 0, ("order", [A, ("other", [])] * 10))
        course = course_of(tasks, plan, {path: (2, "done") for path in paths_of(plan)})[2]
        self.assertEqual(account(tasks, plan, course), (30, 0, 10))
        self.assertEqual(undone(tasks, plan, course), [(2 * one + 2, (one, 0)) for one in range(10)])
        for plan in (SIZE_400, SPAN_400):
            tasks = large_tasks()
            course = all_courses(tasks, plan)[0]
            self.assertEqual(account(tasks, plan, course), (2 * len(course), len(course), 0))
            self.assertEqual(standing(tasks, plan, course), [entry[0] for entry in course])


class SamplesTest(unittest.TestCase):
    def test_samples(self):
        seen = [0, 0, 0, 0, 0, 0]
        for tasks, plan in samples(21, 200, 100):
            for fates, _ in all_fates(tasks, plan):
                seen = [one + other for one, other in zip(seen, self.settled_as_by_the_oracle(tasks, plan, fates))]
        # Each of these happens in some of them.
        self.assertGreater(min(seen), 50, seen)

    def settled_as_by_the_oracle(self, tasks, plan, fates):
        world = World(tasks, plan, fates)
        course = world.course()
        about = (tasks, plan, fates)
        amounts = account(tasks, plan, course)
        undoings = undone(tasks, plan, course)
        stands = standing(tasks, plan, course)
        keepings = kept(tasks, plan, course)
        self.assertEqual(amounts, world.account(), about)
        self.assertEqual(money_of(tasks, plan, course), world.money(), about)
        self.assertEqual(amounts[0] - amounts[1], world.money(), about)
        self.assertEqual(undoings, [(tick, path) for tick, _, path, _, _ in world.undone], about)
        self.assertEqual(stands, sorted(path for _, path, _ in world.returned), about)
        self.assertEqual(keepings, sorted({path for path, _ in world.kept}), about)
        return [bool(one) for one in (amounts[1], amounts[2], undoings, stands, keepings, world.covered)]


class ArgumentsTest(unittest.TestCase):
    def test_wrong_courses(self):
        plan = ("order", [A, B])
        course = course_of(FREE, plan, fates_of(plan, "d1 f2"))[2]
        wrong = ANYTHING + [tuple(course), course[:1], course + course[:1], course[::-1], [*course, None],
                            [((0,), 0, 1, "done"), ((1,), 1, 3, "stopped")], [((0,), False, 1, "done"), course[1]],
                            [((False,), 0, 1, "done"), course[1]], [((0,), 0, True, "done"), course[1]],
                            [list(course[0]), course[1]], [((0,), 0, 5, "done"), ((1,), 5, 6, "done")]]
        for call in (account, money_of, undone, standing, kept):
            for value in wrong:
                with self.assertRaises(InvalidCourse, msg=repr(value)):
                    call(FREE, plan, value)
            check_first_errors(self, lambda tasks, plan: call(tasks, plan, None))
            with self.assertRaises(InvalidCourse):
                call(large_tasks(), SIZE_400, [])

    def test_by_name(self):
        plan = ("order", [("keep", A), B, C])
        course = course_of(FREE, plan, fates_of(plan, "d1 d1 f1"))[2]
        self.assertEqual(account(course=course, plan=plan, tasks=FREE), (37, 10, 0))
        self.assertEqual(money_of(course=course, plan=plan, tasks=FREE), 27)
        self.assertEqual(undone(course=course, plan=plan, tasks=FREE), [(3, (1,))])
        self.assertEqual(standing(course=course, plan=plan, tasks=FREE), [])
        self.assertEqual(kept(course=course, plan=plan, tasks=FREE), [(0,)])

    def test_arguments_stay_and_results_are_new(self):
        tasks = tasks_example()
        plan = ("order", [("keep", C), ("race", [C, C])])
        course = course_of(tasks, plan, {path: (1, "done") for path in paths_of(plan)})[2]
        before = copy.deepcopy((tasks, plan, course))
        for call, expected in [(account, (6, 0, 1)), (money_of, 6), (undone, [(2, (1, 1))]), (standing, [(1, 0)]),
                               (kept, [(0,)])]:
            found = call(tasks, plan, course)
            self.assertEqual(found, expected)
            if isinstance(found, list):
                found.append(None)
            self.assertEqual(call(tasks, plan, course), expected)
        self.assertEqual((tasks, plan, course), before)


if __name__ == "__main__":
    unittest.main()
