"""Tests of prepaidplans.engine: [9], [10] tick by tick, [47], [48], [49]."""

import copy
import inspect
import random
import unittest

from oracle import World, all_fates, paths_of
from prepaidplans import engine as module
from prepaidplans.courses import course_of
from prepaidplans.engine import CountingEngine, Engine, StrictCountingEngine, StrictEngine
from prepaidplans.errors import (
    InvalidEnd, InvalidPath, InvalidPlan, InvalidTasks, InvalidWord, NothingRuns, NothingToUndo, NotSafe, Overdue, PlanError,
    TooLarge,
)
from prepaidplans.halves import is_safe
from prepaidplans.rest import is_beginning, news
from samples import samples
from test_rest import PLANS, shown
from values import (
    A, ANYTHING, B, C, D, FREE, SIZE_400, SIZE_401, SPAN_400, Twin, check_first_errors, large_tasks, sure, tasks_example,
)

TASKS = {**tasks_example(), "n": (5, 7, [(2, "failed", (1, 1))])}
N = ("task", "n")
CLASSES = [Engine, StrictEngine, CountingEngine, StrictCountingEngine]


def state_of(engine):
    """Return all that an engine shows."""
    return (engine.now, engine.running, engine.word, engine.course, len(engine), engine.described())


def due_in(engine, fates):
    """Return the paths of the running tasks that end now with these fates."""
    begins = {path: begin for path, begin, _, word in engine.course if word == "open"}
    return [path for path in engine.running if begins[path] + fates[path][0] == engine.now]


def run_to_the_end(engine, fates, chance):
    """Let an engine run with fates, ends at one tick told in any order."""
    while True:
        due = due_in(engine, fates)
        while due:
            path = chance.choice(due)
            engine.end(path, fates[path][1])
            due = due_in(engine, fates)
        try:
            engine.go_on()
        except NothingRuns:
            return


class RunTest(unittest.TestCase):
    def test_example(self):
        tasks = tasks_example()
        engine = CountingEngine(tasks, ("other", [("within", 1, ("task", "b")), ("task", "c")]))
        self.assertEqual([engine.running, engine.go_on(), engine.now, engine.go_on(), engine.running, engine.course],
                         [[(0,)], [], 1, [(1,)], [(1,)], [((0,), 0, 1, "stopped"), ((1,), 1, None, "open")]])
        self.assertEqual([engine.now, engine.end((1,), "done"), engine.word, engine.begun, engine.described(), engine.undo(),
                          engine.running],
                         [2, None, "done", {"b": 1, "c": 1}, ["running 0", "tick 2", "begun 2"], None, [(1,)]])

    def test_tick_by_tick_against_the_courses(self):
        chance = random.Random(131)
        plans = [(TASKS, plan) for plan in PLANS] + samples(132, 160, 10 ** 5)
        for tasks, plan in plans:
            names = paths_of(plan)
            for _ in range(5):
                fates = {path: chance.choice(tasks[name][2])[:2] for path, name in names.items()}
                self.check_run(tasks, plan, fates, chance)

    def check_run(self, tasks, plan, fates, chance):
        about = (tasks, plan, fates)
        word, tick, course = course_of(tasks, plan, fates)
        engine = Engine(tasks, plan)
        calls = 0
        going = True
        while going:
            due = due_in(engine, fates)
            while due:
                path = chance.choice(due)
                self.assertIsNone(engine.end(path, fates[path][1]), about)
                self.assertNotIn(path, engine.running, about)
                calls += 1
                due = due_in(engine, fates)
            before = engine.course
            try:
                begun = engine.go_on()
            except NothingRuns:
                going = False
                continue
            calls += 1
            # Right behind go_on the course is the beginning of the tick ahead.
            self.assertEqual(engine.course, shown(course, engine.now - 1), about)
            self.assertTrue(is_beginning(tasks, plan, engine.course, engine.now - 1), about)
            known = [entry[0] for entry in before]
            self.assertEqual(begun, sorted(entry[0] for entry in engine.course if entry[0] not in known), about)
            self.assertEqual(engine.word, word if tick < engine.now else "open", about)
            self.assertEqual(engine.running, sorted(entry[0] for entry in engine.course if entry[3] == "open"))
        self.assertEqual((engine.word, engine.course, engine.running), (word, course, []), about)
        self.assertEqual(len(engine), calls)

    def test_what_begins_is_told(self):
        # What begins because of an end begins at once; what begins because of a limit or a delay is returned by go_on.
        engine = Engine(FREE, ("order", [A, ("both", [B, ("later", 0, C), ("later", 2, D)])]))
        self.assertEqual((engine.running, engine.go_on()), ([(0,)], []))
        engine.end((0,), "done")
        self.assertEqual(engine.running, [(1, 0), (1, 1)])
        self.assertEqual([engine.go_on(), engine.go_on(), engine.go_on()], [[], [], [(1, 2)]])
        self.assertEqual(engine.course[-1], ((1, 2), 3, None, "open"))
        engine = Engine(FREE, ("again", 3, 0, A))
        engine.go_on()
        engine.end((0,), "failed")
        self.assertEqual((engine.running, engine.word), ([(1,)], "open"))
        engine = Engine(FREE, ("again", 2, 1, A))
        engine.go_on()
        engine.end((0,), "failed")
        self.assertEqual([engine.running, engine.go_on(), engine.go_on(), engine.running], [[], [], [(1,)], [(1,)]])

    def test_an_end_at_the_tick_of_a_limit(self):
        for told, word, running in [(None, "open", [(1,)]), ("done", "done", []), ("failed", "open", [(1,)])]:
            engine = Engine(FREE, ("other", [("within", 2, A), B]))
            engine.go_on()
            engine.go_on()
            if told is not None:
                engine.end((0,), told)
                self.assertEqual((engine.word, engine.running), (word, running))
            else:
                self.assertEqual(engine.go_on(), [(1,)])
            self.assertEqual((engine.word, engine.running), (word, running))

    def test_an_end_at_the_tick_of_a_stop(self):
        engine = Engine(FREE, ("other", [("both", [A, ("order", [B, C])]), D]))
        engine.go_on()
        engine.end((0, 0), "failed")
        # The both has failed, so the other way begins at once; b is stopped by go_on only, and can still end.
        self.assertEqual(engine.running, [(0, 1, 0), (1,)])
        engine.end((0, 1, 0), "done")
        self.assertEqual(engine.running, [(0, 1, 1), (1,)])
        self.assertEqual(engine.go_on(), [])
        self.assertEqual(engine.course, [((0, 0), 0, 1, "failed"), ((0, 1, 0), 0, 1, "done"), ((0, 1, 1), 1, 1, "stopped"),
                                         ((1,), 1, None, "open")])

    def test_limits_of_0(self):
        engine = Engine(FREE, ("other", [("within", 0, A), ("within", 0, ("order", [])), B]))
        self.assertEqual((engine.word, engine.running), ("open", [(0,)]))
        self.assertEqual(engine.go_on(), [])
        self.assertEqual((engine.word, engine.course), ("done", [((0,), 0, 0, "stopped")]))
        # Limits within limits at one tick: the inner one makes way for what is done at once.
        engine = Engine(FREE, ("within", 2, ("other", [("within", 2, A), ("order", [])])))
        engine.go_on()
        engine.go_on()
        self.assertEqual((engine.word, engine.go_on(), engine.word), ("open", [], "done"))

    def test_sides(self):
        plan = ("watch", 1, ("order", [B, ("later", 2, C)]), A)
        # No side if the part ends at its tick; otherwise it goes on behind the end of the plan.
        engine = Engine(FREE, plan)
        engine.go_on()
        engine.end((1,), "done")
        self.assertEqual((engine.word, engine.running), ("done", []))
        self.assertRaises(NothingRuns, engine.go_on)
        engine.undo()
        self.assertEqual(engine.go_on(), [(0, 0)])
        engine.end((1,), "done")
        self.assertEqual((engine.word, engine.running), ("done", [(0, 0)]))
        engine.end((0, 0), "done")
        # Nothing runs now, but the side is open until its delay is over.
        self.assertEqual([engine.running, engine.go_on(), engine.go_on(), engine.go_on()], [[], [], [], [(0, 1)]])
        engine.end((0, 1), "failed")
        self.assertRaises(NothingRuns, engine.go_on)
        # Of a side nothing is stopped from outside.
        engine = Engine(FREE, ("within", 1, ("watch", 1, B, A)))
        engine.go_on()
        self.assertEqual([engine.go_on(), engine.word, engine.running], [[(0,)], "failed", [(0,)]])
        # A side does not begin if a limit within ends the part at this tick.
        engine = Engine(FREE, ("watch", 1, B, ("within", 1, A)))
        engine.go_on()
        self.assertEqual([engine.go_on(), engine.word, engine.running], [[], "failed", []])

    def test_stops_that_come_with_begins(self):
        # The delay of a part that is stopped at this tick is over at it, too: c begins, and is stopped at once.
        engine = Engine(FREE, ("both", [A, ("later", 1, C), ("watch", 1, D, ("later", 3, B))]))
        engine.go_on()
        engine.end((0,), "failed")
        self.assertEqual((engine.word, engine.running), ("failed", []))
        self.assertEqual(engine.go_on(), [(1,), (2, 0)])
        self.assertEqual(engine.course, [((0,), 0, 1, "failed"), ((1,), 1, 1, "stopped"), ((2, 0), 1, None, "open")])
        engine.go_on()
        engine.end((2, 0), "done")
        self.assertRaises(NothingRuns, engine.go_on)

    def test_plans_without_tasks(self):
        engine = Engine(FREE, ("order", []))
        self.assertEqual((engine.word, engine.now, engine.running, engine.course), ("done", 0, [], []))
        self.assertRaises(NothingRuns, engine.go_on)
        engine = Engine(FREE, ("later", 2, ("other", [])))
        self.assertEqual([engine.go_on(), engine.go_on(), engine.word, engine.go_on(), engine.word], [[], [], "open", [], "failed"])
        self.assertRaises(NothingRuns, engine.go_on)
        self.assertEqual((engine.now, len(engine)), (3, 3))
        # An open side whose limit comes at this tick: closing it leaves no side open.
        engine = Engine(FREE, ("watch", 0, ("within", 1, ("later", 5, A)), ("within", 0, ("later", 1, ("order", [])))))
        self.assertRaises(NothingRuns, Engine(FREE, ("watch", 0, A, ("order", []))).go_on)
        self.assertEqual((engine.go_on(), engine.word), ([], "failed"))
        self.assertRaises(NothingRuns, engine.go_on)
        engine = Engine(FREE, ("watch", 0, ("later", 2, ("order", [])), ("later", 1, ("order", []))))
        self.assertEqual([engine.go_on(), engine.go_on(), engine.word], [[], [], "done"])
        self.assertRaises(NothingRuns, engine.go_on)

    def test_a_single_task(self):
        engine = Engine(FREE, A)
        self.assertEqual((engine.running, engine.course), ([()], [((), 0, None, "open")]))
        engine.go_on()
        engine.end((), "failed")
        self.assertEqual((engine.word, engine.course, len(engine)), ("failed", [((), 0, 1, "failed")], 2))
        engine.undo()
        self.assertEqual((engine.word, engine.running), ("open", [()]))

    def test_the_next_beginning_is_one_of_the_news(self):
        chance = random.Random(133)
        for tasks, plan in [(TASKS, plan) for plan in PLANS] + samples(134, 40, 10 ** 4):
            fates = {path: chance.choice(tasks[name][2])[:2] for path, name in paths_of(plan).items()}
            engine = Engine(tasks, plan)
            try:
                engine.go_on()
                while engine.now < 12:
                    last = engine.course
                    for path in due_in(engine, fates):
                        engine.end(path, fates[path][1])
                    engine.go_on()
                    self.assertIn(engine.course, [one for _, one in news(tasks, plan, last, engine.now - 2)])
            except NothingRuns:
                pass

    def test_large_plans(self):
        engine = Engine(large_tasks(), SIZE_400)
        while engine.running:
            engine.go_on()
            engine.end(engine.running[0], "done")
        self.assertEqual((engine.word, engine.now, len(engine)), ("done", 20, 40))
        engine = Engine(large_tasks(), SPAN_400)
        for tick in range(400):
            engine.go_on()
            if tick % 30 == 9 and tick > 9:
                engine.end(engine.running[0], "done")
        self.assertEqual((engine.word, engine.now), ("done", 400))
        tasks = {"a": sure()}
        engine = CountingEngine(tasks, ("both", [A] * 39))
        engine.go_on()
        for path in engine.running:
            engine.end(path, "done")
        self.assertEqual((engine.word, engine.begun), ("done", {"a": 39}))


class ErrorsTest(unittest.TestCase):
    def test_end(self):
        engine = Engine(FREE, ("order", [A, ("both", [B, C])]))
        for path in ANYTHING + [(1,), (1, 0), [0], (False,), (0, 0), (True,), "0", (Twin(),)]:
            for word in ("done", None):
                with self.assertRaises(InvalidPath, msg=repr(path)):
                    engine.end(path, word)
        # At tick 0 no task ends.
        for word in ANYTHING + ["done", "failed", "open", "stopped"]:
            with self.assertRaises(InvalidWord, msg=repr(word)):
                engine.end((0,), word)
        engine.go_on()
        for word in ANYTHING + ["open", "stopped", "Done", "done ", b"done", ["done"]]:
            with self.assertRaises(InvalidWord, msg=repr(word)):
                engine.end((0,), word)
        self.assertEqual(state_of(engine), (1, [(0,)], "open", [((0,), 0, None, "open")], 1, ["running 1", "tick 1"]))
        engine.end((0,), "done")
        with self.assertRaises(InvalidPath):
            engine.end((0,), "done")
        engine.go_on()
        engine.end((1, 0), "failed")
        engine.go_on()
        # Stopped ones do not run.
        with self.assertRaises(InvalidPath):
            engine.end((1, 1), "done")

    def test_words_that_the_task_has_at_this_tick(self):
        engine = Engine(TASKS, ("both", [A, B]))
        engine.go_on()
        for path, right in [((0,), "failed"), ((1,), "done")]:
            for word in ("done", "failed"):
                self.assertEqual(self.can_end(engine, path, word), word == right)
        engine.go_on()
        self.assertTrue(self.can_end(engine, (0,), "done"))
        self.assertFalse(self.can_end(engine, (0,), "failed"))
        self.assertFalse(self.can_end(engine, (1,), "done"))

    def can_end(self, engine, path, word):
        try:
            engine.tried((path, word))
        except InvalidWord:
            return False
        return True

    def test_overdue(self):
        tasks = {"a": (1, 1, [(1, "done", (1, 2)), (2, "failed", (1, 2))]), "b": sure(tick=2), "c": sure(tick=1)}
        engine = Engine(tasks, ("both", [A, ("order", [C, C]), ("within", 2, B), ("race", [B, B])]))
        engine.go_on()
        with self.assertRaises(Overdue) as caught:
            engine.go_on()
        self.assertEqual(caught.exception.path, (1, 0))
        engine.end((1, 0), "done")
        engine.go_on()
        # A limit would stop b at this tick; a race would stop the second one, and the both all of them.
        for path, word in [((0,), "failed"), ((1, 1), "done"), ((2,), "done"), ((3, 0), "done"), ((3, 1), "done")]:
            before = state_of(engine)
            with self.assertRaises(Overdue) as caught:
                engine.go_on()
            self.assertEqual(caught.exception.path, path)
            self.assertEqual(state_of(engine), before)
            engine.end(path, word)
        self.assertEqual(engine.word, "failed")
        self.assertRaises(NothingRuns, engine.go_on)

    def test_errors_change_nothing(self):
        chance = random.Random(135)
        for tasks, plan in samples(136, 30, 10 ** 4):
            engine = CountingEngine(tasks, plan)
            fates = {path: chance.choice(tasks[name][2])[:2] for path, name in paths_of(plan).items()}
            for _ in range(6):
                before = (state_of(engine), engine.begun)
                for call in (lambda: engine.end((9,), "done"), lambda: engine.end(None, None), lambda: engine.tried(None),
                             lambda: engine.tried(((9,), "done"))):
                    self.assertRaises(PlanError, call)
                for path in engine.running:
                    self.assertRaises(InvalidWord, engine.end, path, "open")
                self.assertEqual((state_of(engine), engine.begun), before)
                for path in due_in(engine, fates):
                    engine.end(path, fates[path][1])
                try:
                    before = state_of(engine)
                    engine.go_on()
                except NothingRuns:
                    self.assertEqual(state_of(engine), before)
                    break

    def test_first_errors_of_each_class(self):
        for one in CLASSES:
            check_first_errors(self, one)


class UndoTest(unittest.TestCase):
    def test_nothing_to_undo(self):
        for one in CLASSES:
            engine = one(large_tasks(), A)
            self.assertRaises(NothingToUndo, engine.undo)
            engine.go_on()
            self.assertIsNone(engine.undo())
            self.assertRaises(NothingToUndo, engine.undo)
            self.assertEqual(engine, one(large_tasks(), A))

    def test_down_to_the_beginning_and_over_again(self):
        chance = random.Random(137)
        for tasks, plan in [(TASKS, plan) for plan in PLANS] + samples(138, 60, 10 ** 5):
            fates = {path: chance.choice(tasks[name][2])[:2] for path, name in paths_of(plan).items()}
            engine = CountingEngine(tasks, plan)
            states = [state_of(engine)]
            while self.step(engine, fates, chance):
                states.append(state_of(engine))
                self.assertEqual(len(engine), len(states) - 1)
                # Back and forth by a random number of calls, and then as before.
                back = chance.randrange(len(states))
                twin = engine.twin()
                for number in range(back):
                    self.assertIsNone(twin.undo())
                    self.assertEqual(state_of(twin), states[-2 - number])
                self.assertEqual(state_of(engine), states[-1])
            for number in range(1, len(states)):
                engine.undo()
                self.assertEqual(state_of(engine), states[-1 - number])
            self.assertRaises(NothingToUndo, engine.undo)
            run_to_the_end(engine, fates, chance)
            self.assertEqual(engine.course, course_of(tasks, plan, fates)[2])

    def step(self, engine, fates, chance):
        due = due_in(engine, fates)
        if due:
            path = chance.choice(due)
            engine.end(path, fates[path][1])
            return True
        try:
            engine.go_on()
        except NothingRuns:
            return False
        return True

    def test_another_way_behind_an_undo(self):
        engine = Engine(FREE, ("other", [A, B]))
        engine.go_on()
        engine.end((0,), "failed")
        engine.go_on()
        engine.end((1,), "failed")
        self.assertEqual(engine.word, "failed")
        engine.undo()
        engine.end((1,), "done")
        self.assertEqual((engine.word, len(engine)), ("done", 4))
        for _ in range(3):
            engine.undo()
        engine.end((0,), "done")
        self.assertEqual((engine.word, engine.course), ("done", [((0,), 0, 1, "done")]))


class TriedTest(unittest.TestCase):
    def test_none_one_and_several(self):
        engine = Engine(FREE, ("both", [("order", [A, ("order", [B, C])]), ("other", [A, D])]))
        self.assertEqual(engine.tried(), [(0, 0), (1, 0)])
        engine.go_on()
        before = state_of(engine)
        for ends, running in [
            ([], [(0, 0), (1, 0)]), ([((0, 0), "done")], [(0, 1, 0), (1, 0)]), ([((0, 0), "failed")], [(1, 0)]),
            ([((1, 0), "failed")], [(0, 0), (1, 1)]), ([((1, 0), "failed"), ((0, 0), "done")], [(0, 1, 0), (1, 1)]),
            ([((0, 0), "failed"), ((1, 0), "failed")], [(1, 1)]), ([((1, 0), "done"), ((0, 0), "failed")], []),
        ]:
            self.assertEqual(engine.tried(*ends), running)
            self.assertEqual(state_of(engine), before)

    def test_wrong_ends(self):
        engine = Engine(FREE, ("both", [A, B]))
        engine.go_on()
        before = state_of(engine)
        for ends, error in [
            ([((2,), "done")], InvalidPath), ([((0,), "open")], InvalidWord), ([((0,), "done"), ((0,), "done")], InvalidPath),
            ([((0,), "done"), ((1,), None)], InvalidWord), ([([0], "done")], InvalidPath), ([((0,), "x"), ((9,), "done")], InvalidWord),
            ([((9,), "done"), ((0,), "x")], InvalidPath), ([(None, None)], InvalidPath), ([((True,), "done")], InvalidPath),
        ]:
            with self.assertRaises(error, msg=repr(ends)):
                engine.tried(*ends)
            self.assertEqual(state_of(engine), before)

    def test_values_that_are_no_ends(self):
        engine = Engine(FREE, ("both", [A, B]))
        engine.go_on()
        before = state_of(engine)
        wrong = [value for value in ANYTHING if not (isinstance(value, tuple) and len(value) == 2)]
        for value in wrong + [[(0,), "done"], ((0,), "done", 1), ((0,),), "ab", {0: 1, 1: 2}]:
            for ends in ([value], [((0,), "done"), value], [((9,), "done"), value], [value, ((0,), "x")]):
                with self.assertRaises(InvalidEnd, msg=repr(value)):
                    engine.tried(*ends)
        self.assertEqual(state_of(engine), before)

    def test_as_the_ends_told(self):
        chance = random.Random(139)
        for tasks, plan in samples(140, 60, 10 ** 4):
            fates = {path: chance.choice(tasks[name][2])[:2] for path, name in paths_of(plan).items()}
            engine = Engine(tasks, plan)
            for _ in range(5):
                ends = [(path, fates[path][1]) for path in due_in(engine, fates)]
                told = engine.tried(*ends)
                for path, word in ends:
                    engine.end(path, word)
                self.assertEqual(engine.running, told)
                try:
                    engine.go_on()
                except (NothingRuns, Overdue):
                    break


class TwinTest(unittest.TestCase):
    def test_twins_go_on_by_themselves(self):
        for one in CLASSES:
            tasks = {name: (cost, undo or 0, ends) for name, (cost, undo, ends) in FREE.items()}
            engine = one(tasks, ("other", [A, ("both", [B, C])]))
            engine.go_on()
            engine.end((0,), "failed")
            twin = engine.twin()
            self.assertIs(type(twin), one)
            self.assertIsNot(twin, engine)
            self.assertEqual(twin, engine)
            self.assertEqual(state_of(twin), state_of(engine))
            before = state_of(engine)
            twin.go_on()
            twin.end((1, 0), "done")
            self.assertEqual(state_of(engine), before)
            self.assertNotEqual(twin, engine)
            for _ in range(4):
                twin.undo()
            self.assertRaises(NothingToUndo, twin.undo)
            self.assertEqual(twin, one(tasks, ("other", [A, ("both", [B, C])])))
            self.assertEqual(state_of(engine), before)
            engine.undo()
            self.assertEqual((engine.running, len(engine)), ([(0,)], 1))
            second = engine.twin().twin()
            engine.end((0,), "done")
            self.assertEqual((second.running, len(second)), ([(0,)], 1))


class StateTest(unittest.TestCase):
    def test_most(self):
        for one in CLASSES:
            self.assertEqual(one.MOST, 400)
            self.assertEqual(one(large_tasks(), A).MOST, 400)

    def test_properties_and_len(self):
        engine = Engine(FREE, ("order", [A, B]))
        told = [state_of(engine)]
        for call in (engine.go_on, lambda: engine.end((0,), "done"), engine.go_on, lambda: engine.end((1,), "failed"), engine.undo):
            call()
            told.append(state_of(engine))
        begun = ((0,), 0, 1, "done")
        self.assertEqual(told, [
            (0, [(0,)], "open", [((0,), 0, None, "open")], 0, ["running 1", "tick 0"]),
            (1, [(0,)], "open", [((0,), 0, None, "open")], 1, ["running 1", "tick 1"]),
            (1, [(1,)], "open", [begun, ((1,), 1, None, "open")], 2, ["running 1", "tick 1"]),
            (2, [(1,)], "open", [begun, ((1,), 1, None, "open")], 3, ["running 1", "tick 2"]),
            (2, [], "failed", [begun, ((1,), 1, 2, "failed")], 4, ["running 0", "tick 2"]),
            (2, [(1,)], "open", [begun, ((1,), 1, None, "open")], 3, ["running 1", "tick 2"]),
        ])

    def test_properties_cannot_be_assigned(self):
        engine = CountingEngine(FREE, A)
        for name in ("now", "running", "word", "course", "begun"):
            with self.assertRaises(AttributeError):
                setattr(engine, name, None)

    def test_lists_and_dicts_are_new(self):
        engine = StrictCountingEngine(large_tasks(), ("order", [A, ("both", [A, B])]))
        engine.go_on()
        for call in (lambda: engine.running, lambda: engine.course, lambda: engine.begun, engine.described, engine.tried):
            told = call()
            copied = copy.deepcopy(told)
            told.clear()
            self.assertEqual(call(), copied)
            self.assertTrue(copied)
        plan = ("later", 1, ("both", [A, A]))
        engine = Engine(large_tasks(), plan)
        engine.go_on()
        begun = engine.go_on()
        self.assertEqual(begun, [(0,), (1,)])
        begun.clear()
        self.assertEqual(engine.running, [(0,), (1,)])

    def test_arguments_are_not_kept(self):
        tasks = {"a": (1, 1, [(1, "done", (1, 2)), (2, "done", (1, 2))]), "b": sure()}
        parts = [A, ("order", [B])]
        plan = ("order", parts)
        before = copy.deepcopy((tasks, plan))
        engines = [one(tasks, plan) for one in CLASSES]
        self.assertEqual((tasks, plan), before)
        same = [engine.twin() for engine in engines]
        tasks["a"][2].clear()
        tasks["b"][2].append(None)
        tasks["c"] = None
        del tasks["b"]
        parts[1][1].append(None)
        parts.append(B)
        for engine, twin in zip(engines, same):
            self.assertEqual(engine, twin)
            engine.go_on()
            engine.end((0,), "done")
            self.assertEqual(engine.running, [(1, 0)])
            engine.go_on()
            engine.end((1, 0), "done")
            self.assertEqual(engine.word, "done")
            self.assertEqual(engine.twin(), engine)
        ends = [((0,), "done")]
        path = (0,)
        engines[0].undo()
        self.assertEqual((ends, path), ([((0,), "done")], (0,)))

    def test_equality(self):
        tasks = large_tasks()
        for one in CLASSES:
            for other in CLASSES:
                self.assertIs(one(tasks, A) == other(tasks, A), one is other)
                self.assertIs(one(tasks, A) != other(tasks, A), one is not other)
        engine = Engine(FREE, ("both", [A, B]))
        same = Engine(copy.deepcopy(FREE), ("both", [A, B]))
        self.assertTrue(engine == same)
        turned = {name: FREE[name] for name in sorted(FREE, reverse=True)}
        self.assertTrue(engine == Engine(turned, ("both", [A, B])))
        self.assertFalse(engine == Engine({**FREE, "e": sure()}, ("both", [A, B])))
        self.assertFalse(engine == Engine({**FREE, "d": sure()}, ("both", [A, B])))
        self.assertFalse(engine == Engine(FREE, ("race", [A, B])))
        self.assertFalse(engine == Engine(FREE, ("both", [A, C])))
        # By now, also where the course is the same; by the course, also by another way there.
        same.go_on()
        self.assertFalse(engine == same)
        self.assertEqual(engine.course, same.course)
        engine.go_on()
        self.assertTrue(engine == same)
        engine.end((0,), "done")
        engine.end((1,), "done")
        same.end((1,), "done")
        self.assertFalse(engine == same)
        same.end((0,), "done")
        self.assertTrue(engine == same)
        same.undo()
        self.assertFalse(engine == same)
        same.end((0,), "failed")
        self.assertFalse(engine == same)
        for value in ANYTHING + [engine.course, FREE, ("both", [A, B]), Engine, "Engine"]:
            if not isinstance(value, Twin):
                self.assertIs(engine == value, False)
                self.assertIs(engine != value, True)

    def test_not_safe(self):
        tasks = {**large_tasks(), "c": (1, None, [(1, "done", (1, 1))]), "n": (1, 1, [(1, "failed", (1, 1))])}
        unsafe = ("order", [C, N])
        for one in (StrictEngine, StrictCountingEngine):
            self.assertRaises(NotSafe, one, tasks, unsafe)
            one(tasks, ("order", [N, C]))
            one({"a": (1, 1, tasks["n"][2])}, A)
            for plan, error in [(("order", [C, N, None]), InvalidPlan), (("order", [unsafe, SIZE_401]), TooLarge)]:
                self.assertRaises(error, one, tasks, plan)
            self.assertRaises(InvalidTasks, one, {**tasks, "n": None}, unsafe)
        for one in (Engine, CountingEngine):
            self.assertEqual(one(tasks, unsafe).running, [(0,)])
        for tasks, plan in samples(141, 60, 10 ** 4):
            if is_safe(tasks, plan):
                self.assertEqual(StrictEngine(tasks, plan).now, 0)
            else:
                self.assertRaises(NotSafe, StrictCountingEngine, tasks, plan)

    def test_begun_has_all_names_of_the_plan(self):
        for one in (CountingEngine, StrictCountingEngine):
            tasks = {name: (cost, undo or 0, ends) for name, (cost, undo, ends) in FREE.items()}
            engine = one(tasks, ("order", [("again", 3, 0, C), ("watch", 1, B, ("both", [A, C]))]))
            told = [engine.begun]
            engine.go_on()
            for index in (0, 1):
                engine.end((0, index), "failed" if index == 0 else "done")
                engine.go_on()
                told.append(engine.begun)
            engine.go_on()
            told.append(engine.begun)
            self.assertEqual(told, [{"a": 0, "b": 0, "c": 1}, {"a": 0, "b": 0, "c": 2}, {"a": 1, "b": 0, "c": 3},
                                    {"a": 1, "b": 1, "c": 3}])
            self.assertEqual(list(engine.begun), ["a", "b", "c"])
            self.assertEqual(engine.described(), ["running 3", "tick 4", "begun 5"])
            engine.undo()
            self.assertEqual(engine.begun, told[-2])

    def test_described(self):
        self.assertEqual(Engine(TASKS, N).described(), ["running 1", "tick 0"])
        self.assertEqual(StrictEngine(TASKS, ("order", [])).described(), ["running 0", "tick 0"])
        self.assertEqual(CountingEngine(TASKS, ("both", [A, B, N])).described(), ["running 3", "tick 0", "begun 3"])
        self.assertEqual(StrictCountingEngine(TASKS, N).described(), ["running 1", "tick 0", "begun 1"])


class ClassesTest(unittest.TestCase):
    def test_subclasses(self):
        for one in CLASSES[1:]:
            self.assertTrue(issubclass(one, Engine))
        self.assertTrue(issubclass(StrictCountingEngine, StrictEngine))
        self.assertTrue(issubclass(StrictCountingEngine, CountingEngine))
        self.assertFalse(issubclass(CountingEngine, StrictEngine))
        self.assertFalse(issubclass(StrictEngine, CountingEngine))

    def test_where_methods_stand(self):
        methods = {"__init__": "self tasks plan", "end": "self path word", "go_on": "self", "undo": "self", "tried": "self ends",
                   "twin": "self", "described": "self", "__len__": "self", "__eq__": "self other"}
        for name, names in methods.items():
            self.assertEqual(list(inspect.signature(vars(Engine)[name]).parameters), names.split(), name)
        for name in ("now", "running", "word", "course"):
            self.assertIsInstance(vars(Engine)[name], property)
        self.assertIsInstance(vars(CountingEngine)["begun"], property)
        self.assertIn("described", vars(CountingEngine))
        for one in CLASSES:
            self.assertEqual(one.__module__, module.__name__)
            self.assertIn("twin", vars(one))
        self.assertFalse(hasattr(Engine(TASKS, N), "begun"))

    def test_by_name(self):
        for one in CLASSES:
            engine = one(plan=N, tasks=TASKS)
            engine.go_on()
            engine.go_on()
            engine.end(word="failed", path=())
            self.assertEqual(engine.word, "failed")

    def test_many_calls(self):
        plan = ("within", 200, ("later", 100, ("later", 100, ("later", 100, N))))
        engine = Engine(TASKS, plan)
        for _ in range(2):
            for _ in range(201):
                engine.go_on()
            self.assertRaises(NothingRuns, engine.go_on)
            for _ in range(201):
                engine.undo()
        self.assertEqual(engine, Engine(TASKS, plan))
        self.assertEqual(Engine(large_tasks(), SPAN_400).now, 0)


class EveryRunTest(unittest.TestCase):
    def test_all_fates_of_small_plans(self):
        chance = random.Random(142)
        for plan in PLANS:
            for fates, _ in all_fates(TASKS, plan)[:60]:
                engine = Engine(TASKS, plan)
                run_to_the_end(engine, fates, chance)
                world = World(TASKS, plan, fates)
                self.assertEqual((engine.course, engine.word), (world.course(), world.root.word), (plan, fates))


if __name__ == "__main__":
    unittest.main()
