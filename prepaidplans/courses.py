"""Courses: the tasks that begin in a run, and how each of them ends."""

from prepaidplans.checks import is_whole
from prepaidplans.errors import InvalidCourse, InvalidFates, TooMany
from prepaidplans.flows import count_runs
from prepaidplans.plans import check_plan, is_path, named_paths
from prepaidplans.rows import fraction, sum_of
from prepaidplans.runs import FOREVER, course_in, run_of

MOST_COURSES = 2_000


def course_of(tasks, plan, fates):
    """Return the tuple (word, tick, course): how and when the plan ends with these fates, and its course."""
    check_plan(tasks, plan)
    _check_fates(ends_by_path(tasks, plan), fates)
    run = run_of(plan, fates, FOREVER)
    return (run.how, run.ended, course_in(run))


def is_course(tasks, plan, value):
    """Return whether any value is a course of the plan with some fates."""
    check_plan(tasks, plan)
    return _run_or_none(ends_by_path(tasks, plan), plan, value) is not None


def end_of(tasks, plan, course):
    """Return the tuple (word, tick) with which the plan ends."""
    run = run_with(tasks, plan, course)
    return (run.how, run.ended)


def share_of(tasks, plan, course):
    """Return the share of a course."""
    run_with(tasks, plan, course)
    ends = ends_by_path(tasks, plan)
    top = 1
    bottom = 1
    for entry in course:
        share = _share_of_entry(ends[entry[0]], entry)
        top *= share[0]
        bottom *= share[1]
    return fraction(top, bottom)


def all_courses(tasks, plan):
    """Return the ascending list of all courses."""
    if count_courses(tasks, plan) > MOST_COURSES:
        raise TooMany(MOST_COURSES)
    ends = ends_by_path(tasks, plan)
    found = []
    # Each item stands for the courses in which nothing changes ahead of a place, and in which each task has the end
    # with its index or a later one. The earliest ends give one of these courses; the others are told apart by the
    # first end in it that they put off. So every course is found, each once, and no run is played for nothing.
    waiting = [((0, ()), {path: 0 for path in ends})]
    while waiting:
        since, indexes = waiting.pop()
        course = course_in(run_of(plan, {path: ends[path][indexes[path]][:2] for path in ends}, FOREVER))
        found.append(course)
        for path, _, end, word in course:
            if word != "stopped" and (end, path) >= since and indexes[path] + 1 < len(ends[path]):
                waiting.append(((end, path), _put_off(indexes, path)))
    return sorted(found)


def count_courses(tasks, plan):
    """Return the number of courses."""
    check_plan(tasks, plan)
    return count_runs(tasks, plan)


def run_with(tasks, plan, course):
    """Return the run with this course, or raise the error of the first wrong argument."""
    check_plan(tasks, plan)
    run = _run_or_none(ends_by_path(tasks, plan), plan, course)
    if run is None:
        raise InvalidCourse("this is not a course of the plan")
    return run


def ends_by_path(tasks, plan):
    """Return a dict from the task paths, ascending, to the ends of their tasks."""
    return {path: tasks[name][2] for path, name in named_paths(plan)}


def has_end(ends, ticks, word):
    """Return whether one of these ends of a task has these ticks and this word."""
    return (ticks, word) in [end[:2] for end in ends]


def _check_fates(ends, fates):
    if not isinstance(fates, dict) or len(fates) != len(ends):
        raise InvalidFates(None)
    if not all([is_path(path) and path in ends for path in fates]):
        raise InvalidFates(None)
    for path in ends:
        if not _is_fate(ends[path], fates[path]):
            raise InvalidFates(path)


def _is_fate(ends, value):
    if not isinstance(value, tuple) or len(value) != 2:
        return False
    return is_whole(value[0]) and isinstance(value[1], str) and has_end(ends, value[0], value[1])


def _run_or_none(ends, plan, value):
    """Return the run that has a value as its course, or None."""
    if not isinstance(value, list) or not all([_is_entry(ends, entry) for entry in value]):
        return None
    # A stopped task could end in any later way; for a task that is not there its fate does not matter.
    fates = {path: ends[path][-1][:2] for path in ends}
    for path, begin, end, word in value:
        if word != "stopped":
            fates[path] = (end - begin, word)
    run = run_of(plan, fates, FOREVER)
    return run if course_in(run) == value else None


def _is_entry(ends, value):
    if not isinstance(value, tuple) or len(value) != 4:
        return False
    path, begin, end, word = value
    if not is_path(path) or path not in ends or not is_whole(begin) or not is_whole(end):
        return False
    return isinstance(word, str) and (word == "stopped" or has_end(ends[path], end - begin, word))


def _share_of_entry(ends, entry):
    _, begin, end, word = entry
    if word == "stopped":
        return sum_of([share for ticks, _, share in ends if ticks > end - begin])
    return sum_of([share for ticks, how, share in ends if (ticks, how) == (end - begin, word)])


def _put_off(indexes, path):
    changed = {one: indexes[one] for one in indexes}
    changed[path] += 1
    return changed
