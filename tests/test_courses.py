"""Tests of prepaidplans.courses: [9], [10], [12], [26], [27]."""

import copy
import unittest
from fractions import Fraction

from oracle import World, all_fates, pair, paths_of
from prepaidplans.courses import all_courses, count_courses, course_of, end_of, is_course, share_of
from prepaidplans.errors import InvalidCourse, InvalidFates, TooMany
from prepaidplans.plans import task_paths
from samples import samples
from values import (
    A, ANYTHING, B, C, D, FREE, SIZE_400, SPAN_400, Twin, check_first_errors, fates_of, large_tasks, sure, tasks_example,
)

# A plan, fates, and what comes of it: how it ends, and its course. FREE's tasks end at ticks 1 to 4.
PLAYED = [
    # Tasks.
    (A, "d3", "done", 3, [((), 0, 3, "done")]),
    (A, "f1", "failed", 1, [((), 0, 1, "failed")]),
    # order
    (("order", []), "", "done", 0, []),
    (("order", [A]), "f2", "failed", 2, [((0,), 0, 2, "failed")]),
    (("order", [A, B]), "d2 d3", "done", 5, [((0,), 0, 2, "done"), ((1,), 2, 5, "done")]),
    (("order", [A, B]), "d2 f3", "failed", 5, [((0,), 0, 2, "done"), ((1,), 2, 5, "failed")]),
    (("order", [A, B, C]), "d1 f3 d1", "failed", 4, [((0,), 0, 1, "done"), ((1,), 1, 4, "failed")]),
    (("order", [("order", []), A]), "d1", "done", 1, [((1,), 0, 1, "done")]),
    (("order", [A, ("other", []), B]), "d1 d1", "failed", 1, [((0,), 0, 1, "done")]),
    # other
    (("other", []), "", "failed", 0, []),
    (("other", [A]), "f2", "failed", 2, [((0,), 0, 2, "failed")]),
    (("other", [A, B]), "f2 d3", "done", 5, [((0,), 0, 2, "failed"), ((1,), 2, 5, "done")]),
    (("other", [A, B]), "f2 f3", "failed", 5, [((0,), 0, 2, "failed"), ((1,), 2, 5, "failed")]),
    (("other", [A, B, C]), "f1 d3 d1", "done", 4, [((0,), 0, 1, "failed"), ((1,), 1, 4, "done")]),
    (("other", [("other", []), A]), "f1", "failed", 1, [((1,), 0, 1, "failed")]),
    # both
    (("both", []), "", "done", 0, []),
    (("both", [A, B]), "d2 d3", "done", 3, [((0,), 0, 2, "done"), ((1,), 0, 3, "done")]),
    (("both", [A, B]), "d3 f1", "failed", 1, [((0,), 0, 1, "stopped"), ((1,), 0, 1, "failed")]),
    (("both", [A, B]), "d1 f3", "failed", 3, [((0,), 0, 1, "done"), ((1,), 0, 3, "failed")]),
    (("both", [A, B, C]), "f4 f2 f3", "failed", 2,
     [((0,), 0, 2, "stopped"), ((1,), 0, 2, "failed"), ((2,), 0, 2, "stopped")]),
    # Ends at the very tick of the stop.
    (("both", [A, B, C]), "d2 f2 f2", "failed", 2, [((0,), 0, 2, "done"), ((1,), 0, 2, "failed"), ((2,), 0, 2, "failed")]),
    (("both", [("other", []), A]), "d1", "failed", 0, [((1,), 0, 0, "stopped")]),
    (("both", [A, ("order", [])]), "d1", "done", 1, [((0,), 0, 1, "done")]),
    # race
    (("race", []), "", "failed", 0, []),
    (("race", [A, B]), "d2 d3", "done", 2, [((0,), 0, 2, "done"), ((1,), 0, 2, "stopped")]),
    (("race", [A, B]), "f1 d3", "done", 3, [((0,), 0, 1, "failed"), ((1,), 0, 3, "done")]),
    (("race", [A, B]), "f4 f2", "failed", 4, [((0,), 0, 4, "failed"), ((1,), 0, 2, "failed")]),
    (("race", [A, B, C]), "d2 d2 f2", "done", 2, [((0,), 0, 2, "done"), ((1,), 0, 2, "done"), ((2,), 0, 2, "failed")]),
    (("race", [("order", []), A]), "d1", "done", 0, [((1,), 0, 0, "stopped")]),
    (("race", [A, ("other", [])]), "f1", "failed", 1, [((0,), 0, 1, "failed")]),
    # again
    (("again", 1, 5, A), "f2", "failed", 2, [((0,), 0, 2, "failed")]),
    (("again", 3, 2, A), "f1 f2 d3", "done", 10, [((0,), 0, 1, "failed"), ((1,), 3, 5, "failed"), ((2,), 7, 10, "done")]),
    (("again", 3, 2, A), "f1 d2 d3", "done", 5, [((0,), 0, 1, "failed"), ((1,), 3, 5, "done")]),
    (("again", 2, 0, A), "f1 f2", "failed", 3, [((0,), 0, 1, "failed"), ((1,), 1, 3, "failed")]),
    (("again", 20, 0, ("other", [])), "", "failed", 0, []),
    (("again", 3, 4, ("other", [])), "", "failed", 8, []),
    # within
    (("within", 3, A), "d3", "done", 3, [((), 0, 3, "done")]),
    (("within", 3, A), "f3", "failed", 3, [((), 0, 3, "failed")]),
    (("within", 3, A), "f2", "failed", 2, [((), 0, 2, "failed")]),
    (("within", 3, A), "d4", "failed", 3, [((), 0, 3, "stopped")]),
    (("within", 0, A), "d1", "failed", 0, [((), 0, 0, "stopped")]),
    (("within", 0, ("order", [])), "", "done", 0, []),
    (("within", 0, ("other", [])), "", "failed", 0, []),
    (("order", [A, ("within", 2, ("order", [B, C]))]), "d3 d1 d2", "failed", 5,
     [((0,), 0, 3, "done"), ((1, 0), 3, 4, "done"), ((1, 1), 4, 5, "stopped")]),
    # What begins at the tick of the limit is stopped at it.
    (("within", 2, ("order", [A, B])), "d2 d1", "failed", 2, [((0,), 0, 2, "done"), ((1,), 2, 2, "stopped")]),
    # later
    (("later", 3, A), "d2", "done", 5, [((), 3, 5, "done")]),
    (("later", 0, A), "f2", "failed", 2, [((), 0, 2, "failed")]),
    (("within", 2, ("later", 3, A)), "d1", "failed", 2, []),
    (("within", 3, ("later", 3, A)), "d1", "failed", 3, [((), 3, 3, "stopped")]),
    # keep, back and easy
    (("keep", A), "d3", "done", 3, [((), 0, 3, "done")]),
    (("keep", A), "f3", "failed", 3, [((), 0, 3, "failed")]),
    (("back", 5, A), "d3", "done", 3, [((), 0, 3, "done")]),
    (("back", 5, A), "f3", "failed", 3, [((), 0, 3, "failed")]),
    (("easy", A), "d3", "done", 3, [((), 0, 3, "done")]),
    (("easy", A), "f3", "done", 3, [((), 0, 3, "failed")]),
    (("easy", ("other", [])), "", "done", 0, []),
    (("order", [("easy", A), B]), "f1 d2", "done", 3, [((0,), 0, 1, "failed"), ((1,), 1, 3, "done")]),
    (("easy", ("within", 1, A)), "d3", "done", 1, [((), 0, 1, "stopped")]),
    # watch: the fates of the side come first.
    (("watch", 2, B, A), "d3 d1", "done", 1, [((1,), 0, 1, "done")]),
    (("watch", 2, B, A), "d3 d2", "done", 2, [((1,), 0, 2, "done")]),
    (("watch", 2, B, A), "d3 f2", "failed", 2, [((1,), 0, 2, "failed")]),
    (("watch", 2, B, A), "f1 d3", "done", 3, [((1,), 0, 3, "done"), ((0,), 2, 3, "failed")]),
    (("watch", 2, B, A), "d4 f3", "failed", 3, [((1,), 0, 3, "failed"), ((0,), 2, 6, "done")]),
    (("watch", 0, B, A), "d1 f3", "failed", 3, [((0,), 0, 1, "done"), ((1,), 0, 3, "failed")]),
    (("watch", 0, B, ("order", [])), "d1", "done", 0, []),
    (("watch", 3, B, ("later", 4, ("order", []))), "d1", "done", 4, [((0,), 3, 4, "done")]),
    # A side of a side, which begins behind the end of the plan.
    (("watch", 1, ("watch", 2, C, B), A), "d4 d3 d2", "done", 2,
     [((1,), 0, 2, "done"), ((0, 1), 1, 4, "done"), ((0, 0), 3, 7, "done")]),
    # In a part that is stopped ahead of, at, and behind the tick at which its side begins.
    (("both", [("watch", 3, B, A), C]), "d4 d4 f2", "failed", 2, [((0, 1), 0, 2, "stopped"), ((1,), 0, 2, "failed")]),
    (("both", [("watch", 2, B, A), C]), "d4 d4 f2", "failed", 2,
     [((0, 1), 0, 2, "stopped"), ((1,), 0, 2, "failed"), ((0, 0), 2, 6, "done")]),
    (("both", [("watch", 1, B, A), C]), "d4 d4 f2", "failed", 2,
     [((0, 1), 0, 2, "stopped"), ((1,), 0, 2, "failed"), ((0, 0), 1, 5, "done")]),
    (("race", [("watch", 2, B, A), C]), "f1 d4 d2", "done", 2,
     [((0, 1), 0, 2, "stopped"), ((1,), 0, 2, "done"), ((0, 0), 2, 3, "failed")]),
    (("within", 2, ("watch", 2, B, A)), "d4 d4", "failed", 2, [((1,), 0, 2, "stopped"), ((0,), 2, 6, "done")]),
    (("watch", 2, B, ("within", 2, A)), "d4 d4", "failed", 2, [((1,), 0, 2, "stopped")]),
    # A side is stopped by what is inside of it.
    (("watch", 1, ("within", 2, B), A), "d4 d4", "done", 4, [((1,), 0, 4, "done"), ((0,), 1, 3, "stopped")]),
    # The earliest of several stops counts.
    (("within", 3, ("both", [A, ("within", 2, B)])), "d4 d4", "failed", 2, [((0,), 0, 2, "stopped"), ((1,), 0, 2, "stopped")]),
    (("within", 1, ("both", [A, ("within", 2, B)])), "d4 d4", "failed", 1, [((0,), 0, 1, "stopped"), ((1,), 0, 1, "stopped")]),
    (("both", [C, ("race", [D, ("order", [A, B])])]), "f3 f1 d1 d4", "failed", 3,
     [((0,), 0, 3, "failed"), ((1, 0), 0, 1, "failed"), ((1, 1, 0), 0, 1, "done"), ((1, 1, 1), 1, 3, "stopped")]),
    (("race", [("both", [A, B]), C]), "d4 f3 d2", "done", 2,
     [((0, 0), 0, 2, "stopped"), ((0, 1), 0, 2, "stopped"), ((1,), 0, 2, "done")]),
    # What follows at the tick of the stop itself still happens.
    (("both", [("order", [A, B]), C]), "d2 d1 f2", "failed", 2,
     [((0, 0), 0, 2, "done"), ((1,), 0, 2, "failed"), ((0, 1), 2, 2, "stopped")]),
    (("race", [("again", 2, 0, A), C]), "f2 d1 d2", "done", 2,
     [((0, 0), 0, 2, "failed"), ((1,), 0, 2, "done"), ((0, 1), 2, 2, "stopped")]),
    (("race", [("again", 2, 1, A), C]), "f2 d1 d2", "done", 2, [((0, 0), 0, 2, "failed"), ((1,), 0, 2, "done")]),
    (("within", 2, ("other", [A, ("order", [])])), "f2", "done", 2, [((0,), 0, 2, "failed")]),
    (("within", 2, ("order", [A, ("watch", 0, C, B)])), "d2 d3 d1", "failed", 2,
     [((0,), 0, 2, "done"), ((1, 0), 2, 5, "done"), ((1, 1), 2, 2, "stopped")]),
]


def changed(entry, index, value):
    """Return an entry with another item."""
    return (*entry[:index], value, *entry[index + 1:])


def wrong_ones(course):
    """Return values like a course of a plan of FREE's tasks."""
    found = [tuple(course), course + [course[0]], [course[0]] + course, course[:-1], course[1:], [[], *course],
             [*course, None], [None] * len(course), [Twin()] * len(course), Twin(), {0: course}, course[0], [course], "x",
             [*course, ((9,), 0, 1, "done")], [*course, ((-1,), 0, 1, "done")], [*course, ((0, 0, 0), 0, 1, "done")]]
    for index, entry in enumerate(course):
        path, begin, end, word = entry
        others = [list(entry), entry[:3], (*entry, None), (*entry, 0), entry[::-1], dict([(0, entry)]), None, path, word]
        others += [changed(entry, 0, value) for value in (list(path), path + (0,), (9,), (-1,), None, 0, Twin(), "", b"")]
        others += [changed(entry, 0, tuple(bool(step) for step in path))] if path and max(path) < 2 else []
        others += [changed(entry, 1, value) for value in (begin + 1, begin - 1, None, str(begin), (begin,), Twin(), 10 ** 59)]
        others += [changed(entry, 2, value) for value in (end + 1, end - 1, None, str(end), [end], Twin(), -(10 ** 59))]
        others += [changed(entry, 1, bool(begin))] if begin < 2 else []
        others += [changed(entry, 2, bool(end))] if end < 2 else []
        others += [changed(entry, 3, value) for value in ("done", "failed", "stopped") if value != word]
        others += [changed(entry, 3, value) for value in ("open", "Done", "", None, True, Twin(), (word,), word.encode())]
        found += [[*course[:index], other, *course[index + 1:]] for other in others]
        found.append(course[:index] + course[index + 1:])
        found.append([*course[:index], entry, entry, *course[index + 1:]])
    found += [[*course[:index], other, one, *course[index + 2:]]
              for index, (one, other) in enumerate(zip(course, course[1:]))]
    return found


class CourseOfTest(unittest.TestCase):
    def test_played(self):
        for plan, told, word, tick, course in PLAYED:
            fates = fates_of(plan, told)
            self.assertEqual(course_of(FREE, plan, fates), (word, tick, course), (plan, told))
            self.assertEqual(end_of(FREE, plan, course), (word, tick), (plan, told))
            self.assertIs(is_course(FREE, plan, course), True)

    def test_everything_is_later_behind_a_task(self):
        for plan, told, word, tick, course in PLAYED:
            behind = ("other", [D, plan])
            inner = [((1, *path), begin + 3, end + 3, how) for path, begin, end, how in course]
            expected = (word, tick + 3, [((0,), 0, 3, "failed"), *inner])
            self.assertEqual(course_of(FREE, behind, fates_of(behind, f"f3 {told}")), expected, plan)

    def test_each_word_within_each_other_word(self):
        inner = [
            ("order", [A, B]), ("other", [A, B]), ("both", [A, B]), ("race", [A, B]), ("again", 2, 1, A), ("within", 2, A),
            ("later", 1, A), ("keep", A), ("easy", A), ("back", 7, A), ("watch", 1, B, A), ("order", []), ("race", []),
        ]
        tasks = {"a": (1, 2, [(1, "failed", (1, 4)), (2, "done", (1, 2)), (3, "failed", (1, 4))]),
                 "b": (3, None, [(1, "done", (1, 2)), (3, "failed", (1, 2))]), "c": sure(2)}
        outer = [
            lambda part: ("order", [part, C]), lambda part: ("order", [C, part]), lambda part: ("other", [part, C]),
            lambda part: ("both", [part, B]), lambda part: ("race", [part, C]), lambda part: ("race", [B, part]),
            lambda part: ("again", 2, 1, part), lambda part: ("within", 2, part), lambda part: ("within", 3, part),
            lambda part: ("later", 1, part), lambda part: ("keep", part), lambda part: ("easy", part),
            lambda part: ("back", 3, part), lambda part: ("watch", 2, part, B), lambda part: ("watch", 2, C, part),
            lambda part: ("watch", 1, part, part),
        ]
        for around in outer:
            for part in inner:
                self.played_as_by_the_oracle(tasks, around(part))

    def test_samples(self):
        for tasks, plan in samples(11, 150, 200):
            self.played_as_by_the_oracle(tasks, plan)

    def played_as_by_the_oracle(self, tasks, plan):
        shares = {}
        ends = {}
        for fates, share in all_fates(tasks, plan):
            world = World(tasks, plan, fates)
            course = world.course()
            end = (world.root.word, world.root.ended)
            self.assertEqual(course_of(tasks, plan, fates), (*end, course), (tasks, plan, fates))
            shares[tuple(course)] = shares.get(tuple(course), 0) + share
            ends[tuple(course)] = end
        self.assertEqual(all_courses(tasks, plan), sorted(list(course) for course in shares), (tasks, plan))
        self.assertEqual(count_courses(tasks, plan), len(shares), (tasks, plan))
        for course, share in shares.items():
            self.assertIs(is_course(tasks, plan, list(course)), True)
            self.assertEqual(share_of(tasks, plan, list(course)), pair(share))
            self.assertEqual(end_of(tasks, plan, list(course)), ends[course])
        self.assertEqual(sum(shares.values()), 1)


class FatesTest(unittest.TestCase):
    def refused(self, plan, fates, path, tasks=FREE):
        with self.assertRaises(InvalidFates, msg=repr(fates)) as caught:
            course_of(tasks, plan, fates)
        self.assertEqual(caught.exception.path, path, fates)

    def test_no_dicts_of_these_keys(self):
        plan = ("order", [A, ("again", 2, 0, B)])
        right = fates_of(plan, "d1 d1 d1")
        self.assertEqual(list(right), [(0,), (1, 0), (1, 1)])
        self.assertEqual(course_of(FREE, plan, right)[0], "done")
        for value in ANYTHING + [list(right), list(right.items()), [(1, "done")] * 3, "d1 d1 d1"]:
            self.refused(plan, value, None)
        for path in right:
            rest = {one: right[one] for one in right if one != path}
            self.refused(plan, rest, None)
            for other in ((), (2,), (0, 0), (1,), (1, 2), (1, 0, 0), (-1,), (0.0,), (False,), (1, True), (True, 0), None, 0,
                          "", "a", Twin(), (Twin(),), (0, Twin()), frozenset()):
                self.refused(plan, {**rest, other: (1, "done")}, None)
            # Wrong keys come ahead of wrong ends.
            self.refused(plan, {one: None for one in rest}, None)
        for other in ((), (2,), (1,), (1, 2), None, "a", 0, Twin()):
            self.refused(plan, {**right, other: (1, "done")}, None)
            self.refused(plan, {other: (1, "done"), **right}, None)

    def test_bools_in_keys(self):
        plan = ("both", [A, B])
        self.refused(plan, {(False,): (1, "done"), (1,): (1, "done")}, None)
        self.refused(plan, {(0,): (1, "done"), (True,): (1, "done")}, None)

    def test_wrong_ends(self):
        tasks = {"a": (1, 1, [(1, "done", (1, 2)), (3, "failed", (1, 2))]), "b": sure(2)}
        plan = ("both", [A, B, A])
        right = {(0,): (1, "done"), (1,): (2, "done"), (2,): (3, "failed")}
        self.assertEqual(course_of(tasks, plan, right)[:2], ("failed", 3))
        wrong = [value for value in ANYTHING if value != (1, "done")]
        wrong += [(1, "failed"), (3, "done"), (2, "failed"), (0, "done"), (-1, "done"), (True, "done"), ("1", "done"),
                  (1, "stopped"), (1, "Done"), (1, ""), (1, None), (1, b"done"), (1, ("done",)), (1, "done", (1, 2)), (1,),
                  [1, "done"], ("done", 1), {1: "done"}, "1done", ((1, "done"),), (None, "done"), (Twin(), "done"),
                  (1, Twin()), (Twin(), Twin()), ([1], "done"), (1, ["done"]), 1, "done"]
        for value in wrong:
            self.refused(plan, {**right, (0,): value}, (0,), tasks)
            self.refused(plan, {**right, (2,): value}, (2,), tasks)
        self.refused(plan, {**right, (1,): (1, "done")}, (1,), tasks)
        self.refused(plan, {**right, (1,): (True, "done")}, (1,), tasks)
        self.refused(plan, {**right, (1,): (2, "failed")}, (1,), tasks)

    def test_least_wrong_path(self):
        plan = ("order", [("other", [A, B]), C, ("again", 3, 0, A)])
        paths = task_paths(FREE, plan)
        right = fates_of(plan, "d1 " * len(paths))
        for first, path in enumerate(paths):
            wrong = {one: None for one in paths[first:]}
            self.refused(plan, {**right, **wrong}, path)
            self.refused(plan, {**wrong, **right, **wrong}, path)
            self.refused(plan, {one: {**right, **wrong}[one] for one in reversed(paths)}, path)
            # Also in tasks that never begin.
            self.refused(plan, {**right, path: (9, "done")}, path)

    def test_order_of_keys(self):
        plan = ("order", [A, B, C])
        fates = fates_of(plan, "d1 d2 f3")
        turned = {path: fates[path] for path in reversed(list(fates))}
        self.assertEqual(course_of(FREE, plan, turned), course_of(FREE, plan, fates))

    def test_no_tasks(self):
        for plan, end in [(("order", []), ("done", 0)), (("later", 7, ("race", [])), ("failed", 7))]:
            self.assertEqual(course_of(FREE, plan, {}), (*end, []))
            self.assertEqual(all_courses(FREE, plan), [[]])
            self.assertEqual(count_courses(FREE, plan), 1)
            self.assertEqual(share_of(FREE, plan, []), (1, 1))
            self.assertEqual(end_of(FREE, plan, []), end)
            self.refused(plan, {(): (1, "done")}, None)
            self.refused(plan, [], None)


class CourseTest(unittest.TestCase):
    def refused(self, tasks, plan, value):
        self.assertIs(is_course(tasks, plan, value), False, value)
        for call in (end_of, share_of):
            with self.assertRaises(InvalidCourse, msg=repr(value)):
                call(tasks, plan, value)

    def test_any_value(self):
        for plan in (A, ("order", [A, B]), ("watch", 1, A, B), ("keep", ("both", [A, B]))):
            for value in ANYTHING:
                self.refused(FREE, plan, value)

    def test_nearly_courses(self):
        plans = [
            ("order", [A, B]), ("both", [A, B]), ("race", [A, ("within", 2, B)]), ("watch", 1, B, A), ("again", 2, 0, A), A,
            ("within", 2, ("order", [A, ("both", [B, C])])),
        ]
        for plan in plans:
            right = all_courses(FREE, plan)
            told = {repr(course) for course in right}
            for course in right[::max(1, len(right) // 8)]:
                self.assertIs(is_course(FREE, plan, course), True)
                for value in wrong_ones(course):
                    self.assertIs(is_course(FREE, plan, value), repr(value) in told, value)
                    if repr(value) not in told:
                        self.refused(FREE, plan, value)

    def test_stopped_tasks_could_end_later(self):
        tasks = {"a": (1, 1, [(1, "done", (1, 2)), (2, "done", (1, 2))]), "b": (1, 1, [(tick, "done", (1, 8)) for tick in
                                                                                      range(1, 9)])}
        plan = ("race", [A, B])
        # At tick 2 a cannot be stopped, since it ends at 2 at the latest.
        self.refused(tasks, plan, [((0,), 0, 2, "stopped"), ((1,), 0, 2, "done")])
        self.assertTrue(is_course(tasks, plan, [((0,), 0, 1, "stopped"), ((1,), 0, 1, "done")]))
        # Without anything that stops it, a task cannot be stopped.
        self.refused(tasks, plan, [((0,), 0, 1, "stopped"), ((1,), 0, 1, "stopped")])
        self.refused(tasks, A, [((), 0, 1, "stopped")])
        self.refused(tasks, plan, [((0,), 0, 1, "done"), ((1,), 0, 2, "stopped")])
        self.refused(tasks, plan, [((0,), 0, 1, "done"), ((1,), 0, 2, "done")])

    def test_courses_of_other_plans(self):
        one, other = ("order", [A, B]), ("order", [B, A])
        tasks = {"a": sure(1), "b": sure(2)}
        self.assertEqual(all_courses(tasks, one), [[((0,), 0, 1, "done"), ((1,), 1, 3, "done")]])
        self.refused(tasks, other, all_courses(tasks, one)[0])
        self.refused(tasks, ("both", [A, B]), all_courses(tasks, one)[0])
        self.refused(tasks, ("order", [A, B, A]), all_courses(tasks, one)[0])
        self.assertTrue(is_course(tasks, ("order", [A, ("keep", B)]), all_courses(tasks, one)[0]))
        self.assertTrue(is_course(tasks, ("again", 2, 0, A), [((0,), 0, 1, "done")]))
        self.refused(tasks, ("again", 2, 0, A), [((0,), 0, 1, "done"), ((1,), 1, 2, "done")])

    def test_shares(self):
        tasks = tasks_example()
        plan = ("order", [A, B])
        shares = [share_of(tasks, plan, course) for course in all_courses(tasks, plan)]
        self.assertEqual(all_courses(tasks, plan), [
            [((0,), 0, 1, "failed")], [((0,), 0, 2, "done"), ((1,), 2, 3, "done")],
            [((0,), 0, 2, "done"), ((1,), 2, 5, "failed")],
        ])
        self.assertEqual(shares, [(1, 2), (3, 8), (1, 8)])
        # The share of a stopped task is that of all of its later ends: 6 of 8 ends are later than tick 1.
        course = [((0,), 0, 1, "stopped"), ((1,), 0, 1, "failed")]
        self.assertEqual(share_of(FREE, ("both", [A, B]), course), (3, 32))
        self.assertEqual(share_of(FREE, ("within", 0, A), [((), 0, 0, "stopped")]), (1, 1))
        self.assertEqual(share_of(FREE, ("within", 3, A), [((), 0, 3, "stopped")]), (1, 4))
        late = [((0,), 0, 3, "failed"), ((1,), 3, 5, "stopped")]
        self.assertEqual(share_of(FREE, ("within", 5, ("other", [A, B])), late), (1, 16))

    def test_shares_add_up_to_1(self):
        for tasks, plan in samples(12, 100, 300):
            shares = [Fraction(*share_of(tasks, plan, course)) for course in all_courses(tasks, plan)]
            self.assertEqual(sum(shares), 1)


class ManyTest(unittest.TestCase):
    def too_many(self, tasks, plan, many):
        self.assertEqual(count_courses(tasks, plan), many)
        with self.assertRaises(TooMany) as caught:
            all_courses(tasks, plan)
        self.assertEqual(caught.exception.limit, 2000)

    def listed(self, tasks, plan, many):
        self.assertEqual(count_courses(tasks, plan), many)
        courses = all_courses(tasks, plan)
        self.assertEqual(len(courses), many)
        self.assertTrue(all(one < other for one, other in zip(courses, courses[1:])))
        self.assertTrue(all(is_course(tasks, plan, course) for course in courses[::97]))

    def test_2000_and_2001(self):
        tasks = {"a": (1, 1, [(tick, "done", (1, 5)) for tick in (1, 2, 3, 4, 5)]),
                 "b": (1, 1, [(tick, "done", (1, 4)) for tick in (1, 2, 3, 4)]),
                 "c": (1, 1, [(1, "done", (1, 2)), (1, "failed", (1, 2))])}
        plan = ("both", [("both", [A, A, A]), ("both", [B, B])])
        self.listed(tasks, plan, 2000)
        self.listed(tasks, ("order", [("both", [A, A]), ("both", [A, B, B])]), 2000)
        more = ("other", [("within", 0, C), plan])
        self.listed(tasks, more, 2000)
        self.too_many(tasks, ("order", [C, plan]), 2001)
        self.too_many(tasks, ("both", [("easy", C), plan]), 4000)
        self.too_many(tasks, ("both", [A] * 20), 5 ** 20)

    def test_fates_are_not_counted(self):
        ends = [(tick, "failed", (1, 8)) for tick in range(1, 9)]
        tasks = {"a": (1, 1, ends), "b": (1, None, [(tick, "done", share) for tick, _, share in ends]), "c": sure()}
        self.listed(tasks, ("order", [A] * 38), 8)
        self.listed(tasks, ("other", [B] * 38), 8)
        self.too_many(tasks, ("order", [B] * 38), 8 ** 38)
        self.too_many(tasks, ("other", [A] * 38), 8 ** 38)
        self.too_many(tasks, ("both", [B] * 38), 8 ** 38)
        # At tick 1 each of them has failed, or is stopped.
        self.too_many(tasks, ("race", [C] + [A] * 38), 2 ** 38)
        self.listed(tasks, ("race", [("order", []), *[A] * 38]), 1)
        self.listed(tasks, ("within", 3, ("order", [B] * 38)), 8)
        self.listed(tasks, ("within", 1, ("other", [A] * 3 + [("both", [A] * 34)])), 2)
        self.listed(tasks, ("within", 0, ("both", [B] * 37)), 1)

    def test_very_many(self):
        tasks = {"a": (1, 1, [(1, "done", (1, 2)), (1, "failed", (1, 2))]),
                 "b": (1, 1, [(1, "done", (1, 2)), (2, "failed", (1, 2))])}
        always = ("easy", A)
        # One of the tries is done, or all fail: so it is one more than there are tries.
        self.listed(tasks, ("again", 20, 0, A), 21)
        self.listed(tasks, ("again", 20, 3, A), 21)
        self.listed(tasks, ("again", 19, 0, ("again", 19, 0, A)), 19 * 19 + 1)
        self.too_many(tasks, ("again", 18, 0, ("order", [always] * 5 + [("other", [])])), 32 ** 18)
        # No part fails for good ahead of tick 20.
        self.too_many(tasks, ("both", [("again", 20, 0, A)] * 9), 21 ** 9)
        # A side multiplies only the courses in which it begins.
        self.listed(tasks, ("watch", 1, ("both", [always] * 4), B), 1 + 16)
        self.listed(tasks, ("watch", 2, ("both", [always] * 4), B), 2)
        self.listed(tasks, ("within", 1, ("watch", 1, ("both", [always] * 4), B)), 1 + 16)
        self.listed(tasks, ("within", 0, ("watch", 1, ("both", [always] * 4), B)), 1)
        self.too_many(tasks, ("watch", 0, ("both", [always] * 12), B), 2 ** 13)

    def test_large_plans(self):
        tasks = large_tasks()
        for plan, word, tick, begun in [(SIZE_400, "done", 20, 20), (SPAN_400, "done", 400, 13)]:
            fates = {path: (1 if name == "a" else 30, "done") for path, name in paths_of(plan).items()}
            found = course_of(tasks, plan, fates)
            self.assertEqual((found[0], found[1], len(found[2])), (word, tick, begun))
            self.assertEqual(all_courses(tasks, plan), [found[2]])
            self.assertEqual(share_of(tasks, plan, found[2]), (1, 1))
        tasks["a"] = (1, 1, [(1, "failed", (999, 1000)), (1, "done", (1, 1000))][::-1])
        plan = ("again", 19, 0, ("again", 20, 0, A))
        found = course_of(tasks, plan, {path: (1, "failed") for path in paths_of(plan)})
        self.assertEqual((found[0], found[1], len(found[2])), ("failed", 380, 380))
        self.assertEqual(share_of(tasks, plan, found[2]), (999 ** 380, 1000 ** 380))
        self.listed(tasks, plan, 381)


class ArgumentsTest(unittest.TestCase):
    def test_errors_in_their_order(self):
        for call in (course_of, is_course, end_of, share_of):
            check_first_errors(self, lambda tasks, plan: call(tasks, plan, None))
        for call in (all_courses, count_courses):
            check_first_errors(self, call)

    def test_by_name(self):
        plan = ("order", [A, B])
        fates = fates_of(plan, "d1 f2")
        word, tick, course = course_of(plan=plan, fates=fates, tasks=FREE)
        self.assertEqual((word, tick), end_of(course=course, plan=plan, tasks=FREE))
        self.assertTrue(is_course(value=course, tasks=FREE, plan=plan))
        self.assertEqual(share_of(course=course, tasks=FREE, plan=plan), (1, 64))
        self.assertEqual(count_courses(plan=plan, tasks=FREE), len(all_courses(plan=plan, tasks=FREE)))

    def test_arguments_stay_and_results_are_new(self):
        tasks = tasks_example()
        plan = ("order", [A, ("both", [B, C])])
        fates = {(0,): (2, "done"), (1, 0): (1, "done"), (1, 1): (1, "done")}
        before = copy.deepcopy((tasks, plan, fates))
        course = course_of(tasks, plan, fates)[2]
        copied = list(course)
        is_course(tasks, plan, course)
        end_of(tasks, plan, course)
        share_of(tasks, plan, course)
        courses = all_courses(tasks, plan)
        count_courses(tasks, plan)
        self.assertEqual((tasks, plan, fates), before)
        self.assertEqual(course, copied)
        course.clear()
        self.assertEqual(course_of(tasks, plan, fates)[2], copied)
        again = all_courses(tasks, plan)
        for one in courses:
            one.clear()
        courses.clear()
        self.assertEqual(all_courses(tasks, plan), again)
        self.assertTrue(all(again))


if __name__ == "__main__":
    unittest.main()
