"""Halves: what can be left half done, and what would have to change so that nothing is."""

from prepaidplans.accounts import Book
from prepaidplans.courses import all_courses, run_with
from prepaidplans.errors import InvalidNames, NeverDone
from prepaidplans.flows import Measure, flow_of, measure_of_lost
from prepaidplans.plans import check_plan
from prepaidplans.tasks import check_tasks, is_known, is_sure, success

MOST_IN_ROW = 12


def is_safe(tasks, plan):
    """Return whether no course loses a task."""
    check_plan(tasks, plan)
    return flow_of(tasks, plan, [measure_of_lost(tasks)]).all_paid() == [0]


def half_course(tasks, plan):
    """Return a course that loses a task, with as few tasks as any, or None."""
    courses = all_courses(tasks, plan)
    if is_safe(tasks, plan):
        return None
    for course in sorted(courses, key=len):
        if Book(tasks, run_with(tasks, plan, course)).count_lost() > 0:
            return course
    return None


def needed_undos(tasks, plan):
    """Return the ascending list of the names of which a task is lost in some course."""
    check_plan(tasks, plan)
    names = [name for name in sorted(tasks) if tasks[name][1] is None]
    flow = flow_of(tasks, plan, [Measure({}, {name: 1}, False) for name in names])
    return [name for name, undone in zip(names, flow.all_paid()) if undone != 0]


def fewest_changes(tasks, names):
    """Return the least one of the shortest lists of changes behind which a row of tasks has no bad pair."""
    fixed, unsure = _bad_ends(tasks, names)
    # If a task is the first one that still cannot be undone, those ahead of it have changed, and all behind it that
    # can fail; and that is enough. So each list without a change in vain is one of these; the last one changes all
    # that cannot be undone.
    lists = [_changes(fixed, unsure, first) for first in fixed + [len(names)]]
    return min(lists, key=lambda changes: (len(changes), changes))


def apart_pairs(tasks, names):
    """Return as many bad pairs as the fewest changes, in which no index is the first or the second one twice."""
    fixed, unsure = _bad_ends(tasks, names)
    pairs = []
    for first in fixed[::-1]:
        # The later the first one, the fewer can be its second one: so the last first one chooses first.
        free = [second for second in unsure if second > first]
        if free:
            pairs.append((first, free[0]))
            unsure = [second for second in unsure if second != free[0]]
    return sorted(pairs)


def _bad_ends(tasks, names):
    """Return the lists of the indexes of the tasks that cannot be undone, and of those that can fail."""
    check_tasks(tasks)
    if not isinstance(names, list) or len(names) > MOST_IN_ROW or not all([is_known(tasks, name) for name in names]):
        raise InvalidNames("a row of tasks is a list of at most 12 names of tasks")
    for index, name in enumerate(names):
        if success(tasks, name) == (0, 1):
            raise NeverDone(index)
    fixed = [index for index, name in enumerate(names) if tasks[name][1] is None]
    return (fixed, [index for index, name in enumerate(names) if not is_sure(tasks, name)])


def _changes(fixed, unsure, first):
    return sorted([(index, "undo") for index in fixed if index < first]
                  + [(index, "sure") for index in unsure if index > first])
