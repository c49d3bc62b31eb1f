"""Tasks: what they cost, and how they can end."""

from prepaidplans.checks import is_between
from prepaidplans.errors import InvalidName, InvalidTask, InvalidTasks
from prepaidplans.rows import is_fraction, sum_of

# The words of plans cannot be names: in a text nothing else tells them apart.
PLAN_WORDS = (
    "order", "other", "both", "race", "again", "within", "later", "keep", "easy", "back", "watch",
)
END_WORDS = ("done", "failed")

MOST_MONEY = 1_000_000_000_000
MOST_TASKS = 12
MOST_LETTERS = 8
MOST_ENDS = 8
LAST_TICK = 30
MOST_BOTTOM = 1_000


def is_task(value):
    """Return whether any value is a task (cost, undo, ends)."""
    if not isinstance(value, tuple) or len(value) != 3:
        return False
    cost, undo, ends = value
    return _is_money(cost) and (undo is None or _is_money(undo)) and _are_ends(ends)


def is_tasks(value):
    """Return whether any value is a dict of names to tasks."""
    return _has_names(value) and all([is_task(value[name]) for name in value])


def success(tasks, name):
    """Return the sum of the shares with which the task is done."""
    _check_known(tasks, name)
    _, _, ends = tasks[name]
    return sum_of([share for _, word, share in ends if word == "done"])


def is_sure(tasks, name):
    """Return whether the task is always done."""
    return success(tasks, name) == (1, 1)


def last_end(tasks, name):
    """Return the greatest tick at which the task can end."""
    _check_known(tasks, name)
    return last_tick(tasks[name])


def with_task(tasks, name, task):
    """Return new tasks in which the name has this task."""
    check_tasks(tasks)
    if not is_name(name) or (name not in tasks and len(tasks) >= MOST_TASKS):
        raise InvalidName("this is not a name, or there are 12 other ones")
    if not is_task(task):
        raise InvalidTask("a task is a tuple (cost, undo, ends)")
    return copied_tasks({**tasks, name: task})


def copied_tasks(tasks):
    """Return tasks, by ascending names, that have nothing in common with tasks that could be changed."""
    return {name: _copied(tasks[name]) for name in sorted(tasks)}


def check_tasks(tasks):
    """Raise InvalidTasks unless these are tasks."""
    if not _has_names(tasks):
        raise InvalidTasks(None)
    for name in sorted(tasks):
        if not is_task(tasks[name]):
            raise InvalidTasks(name)


def is_name(value):
    """Return whether any value can be the name of a task."""
    if not isinstance(value, str) or not 1 <= len(value) <= MOST_LETTERS:
        return False
    return all(["a" <= sign <= "z" for sign in value]) and value not in PLAN_WORDS


def is_known(tasks, value):
    """Return whether any value is one of the names of the tasks."""
    return isinstance(value, str) and value in tasks


def last_tick(task):
    """Return the greatest tick of a task."""
    return task[2][-1][0]


def _check_known(tasks, name):
    check_tasks(tasks)
    if not is_known(tasks, name):
        raise InvalidName("no task has this name")


def _has_names(value):
    if not isinstance(value, dict) or not 1 <= len(value) <= MOST_TASKS:
        return False
    return all([is_name(name) for name in value])


def _is_money(value):
    return is_between(value, 0, MOST_MONEY)


def _is_end(value):
    if not isinstance(value, tuple) or len(value) != 3:
        return False
    tick, word, share = value
    return is_between(tick, 1, LAST_TICK) and _is_end_word(word) and _is_end_share(share)


def _is_end_word(value):
    return isinstance(value, str) and value in END_WORDS


def _is_end_share(value):
    return is_fraction(value) and value[0] > 0 and value[1] <= MOST_BOTTOM


def _are_ends(value):
    if not isinstance(value, list) or not 1 <= len(value) <= MOST_ENDS:
        return False
    if not all([_is_end(end) for end in value]):
        return False
    places = [(tick, word) for tick, word, _ in value]
    ascend = all([one < other for one, other in zip(places, places[1:])])
    return ascend and sum_of([share for _, _, share in value]) == (1, 1)


def _copied(task):
    cost, undo, ends = task
    return (cost, undo, list(ends))
