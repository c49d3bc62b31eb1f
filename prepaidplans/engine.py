"""Engines: they run a plan tick by tick, while the ends of its tasks are told."""

from prepaidplans.courses import ends_by_path, has_end
from prepaidplans.errors import (
    InvalidEnd, InvalidPath, InvalidWord, NothingRuns, NothingToUndo, NotSafe, Overdue,
)
from prepaidplans.halves import is_safe
from prepaidplans.plans import check_plan, copied_plan, is_path, named_paths
from prepaidplans.runs import OPEN, course_in, run_of, with_fate
from prepaidplans.tasks import copied_tasks


class Engine:
    """Runs a plan tick by tick."""

    MOST = 400

    def __init__(self, tasks, plan):
        check_plan(tasks, plan)
        self._tasks = copied_tasks(tasks)
        self._plan = copied_plan(plan)
        self._ends = ends_by_path(self._tasks, self._plan)
        self._now = 0
        self._fates = {}
        # For each call that can be undone the path whose end it told, or None for go_on.
        self._calls = []
        self._show(self._present_run(self._fates))

    def __eq__(self, other):
        return (isinstance(other, Engine) and type(self) is type(other) and self._tasks == other._tasks
                and self._plan == other._plan and self._now == other._now and self._course == other._course)

    def __len__(self):
        return len(self._calls)

    @property
    def now(self):
        """The present tick."""
        return self._now

    @property
    def running(self):
        """The ascending list of the paths of the running tasks."""
        return _running_in(self._course)

    @property
    def word(self):
        """How the plan stands: done, failed or open."""
        return self._word

    @property
    def course(self):
        """The list of the tasks begun so far, as in a beginning."""
        return list(self._course)

    def end(self, path, word):
        """Tell that a running task ends at the present tick."""
        self._fates = self._told(self._fates, self._course, path, word)
        self._calls.append(path)
        self._show(self._present_run(self._fates))

    def go_on(self):
        """Close the present tick, and return the ascending list of the paths of the tasks that begin because of it."""
        due = [path for path, begin, _, word in self._course
               if word == OPEN and begin + self._ends[path][-1][0] <= self._now]
        if due:
            raise Overdue(min(due))
        run = run_of(self._plan, self._fates, self._now)
        known = {entry[0] for entry in self._course}
        begun = sorted([entry[0] for entry in course_in(run) if entry[0] not in known])
        sides = [side for side in run.all_sides() if side.how == OPEN]
        if self._word != OPEN and not self.running and not begun and not sides:
            raise NothingRuns("the plan has ended, and nothing is left to run")
        self._calls.append(None)
        self._now += 1
        self._show(run)
        return begun

    def undo(self):
        """Revert the last call of end or go_on that is not reverted."""
        if not self._calls:
            raise NothingToUndo("there is no call to revert")
        path = self._calls.pop()
        if path is None:
            self._now -= 1
        else:
            self._fates = {one: self._fates[one] for one in self._fates if one != path}
        self._show(self._present_run(self._fates))

    def tried(self, *ends):
        """Return what would be running behind these ends, told one after the other."""
        for one in ends:
            if not isinstance(one, tuple) or len(one) != 2:
                raise InvalidEnd("an end is a tuple of a path and a word")
        fates = self._fates
        course = self._course
        for path, word in ends:
            fates = self._told(fates, course, path, word)
            course = course_in(self._present_run(fates))
        return _running_in(course)

    def twin(self):
        """Return an independent engine in the same state, with the same calls to undo."""
        twin = Engine(self._tasks, self._plan)
        twin._follow(self)
        return twin

    def described(self):
        """Return the list of lines that describe the engine."""
        return [f"running {len(self.running)}", f"tick {self.now}"]

    def _follow(self, other):
        """Take the state of another engine of the same plan."""
        self._now = other._now
        self._fates = other._fates
        self._calls = list(other._calls)
        self._show(self._present_run(self._fates))

    def _told(self, fates, course, path, word):
        """Return the fates with one more, or raise the error of a wrong end."""
        begins = {one: begin for one, begin, _, how in course if how == OPEN}
        if not is_path(path) or path not in begins:
            raise InvalidPath("no running task has this path")
        ticks = self._now - begins[path]
        if not isinstance(word, str) or not has_end(self._ends[path], ticks, word):
            raise InvalidWord("the task has no such end at this tick")
        return with_fate(fates, path, (ticks, word))

    def _present_run(self, fates):
        """Return the run with these fates, in which limits, stops, sides and delays of the present tick are not due."""
        return run_of(self._plan, fates, self._now - 1)

    def _show(self, run):
        self._word = run.how
        self._course = course_in(run)


class StrictEngine(Engine):
    """An engine of a safe plan."""

    def __init__(self, tasks, plan):
        super().__init__(tasks, plan)
        if not is_safe(tasks, plan):
            raise NotSafe("some course of the plan loses a task")

    def twin(self):
        """Return an independent engine in the same state, with the same calls to undo."""
        twin = StrictEngine(self._tasks, self._plan)
        twin._follow(self)
        return twin


class CountingEngine(Engine):
    """An engine that counts the tasks that have begun."""

    def __init__(self, tasks, plan):
        super().__init__(tasks, plan)
        self._names = {path: name for path, name in named_paths(self._plan)}

    @property
    def begun(self):
        """A dict from the names in the plan to the numbers of their tasks that have begun."""
        names = [self._names[entry[0]] for entry in self._course]
        return {name: names.count(name) for name in sorted(set(list(self._names.values())))}

    def twin(self):
        """Return an independent engine in the same state, with the same calls to undo."""
        twin = CountingEngine(self._tasks, self._plan)
        twin._follow(self)
        return twin

    def described(self):
        """Return the list of lines that describe the engine."""
        return super().described() + [f"begun {len(self._course)}"]


class StrictCountingEngine(StrictEngine, CountingEngine):
    """An engine of a safe plan that counts the tasks that have begun."""

    def twin(self):
        """Return an independent engine in the same state, with the same calls to undo."""
        twin = StrictCountingEngine(self._tasks, self._plan)
        twin._follow(self)
        return twin


def _running_in(course):
    """Return the ascending list of the paths of the open tasks of a course."""
    return sorted([path for path, _, _, word in course if word == OPEN])
