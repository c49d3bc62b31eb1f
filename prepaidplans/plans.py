"""Plans: nested tuples of words, numbers, and names of tasks."""

from prepaidplans.checks import is_between, is_whole
from prepaidplans.errors import InvalidPath, InvalidPlan, TooLarge
from prepaidplans.tasks import check_tasks, is_known, last_tick

# The words with a list of plans behind them.
LIST_WORDS = ("order", "other", "both", "race")

# For each other word but task the bounds of the numbers behind it, ahead of its plans; back's is that of all money.
NUMBERS = {
    "again": ((1, 20), (0, 100)),
    "within": ((0, 200),),
    "later": ((0, 100),),
    "keep": (),
    "easy": (),
    "back": ((0, 1_000_000_000_000),),
    "watch": ((0, 200),),
}

MOST_PLANS = 40
MOST_LEVELS = 8
MOST_SIZE = 400


def is_plan(tasks, value):
    """Return whether any value is a plan."""
    return fault_of(tasks, value) is None


def fault_of(tasks, value):
    """Return None for a plan, otherwise the path of its first fault."""
    check_tasks(tasks)
    seen = 0
    waiting = [((), 1, value)]
    while waiting:
        path, level, one = waiting.pop()
        seen += 1
        if seen > MOST_PLANS or level > MOST_LEVELS or not _has_form(tasks, one):
            return path
        # The last one that waits is the next: so what is in this plan comes ahead of what stands behind it.
        inner = [(path + step, level + 1, part) for step, part in steps_of(one)]
        waiting.extend(inner[::-1])
    return None


def names_in(tasks, plan):
    """Return the ascending list of the names in a plan."""
    check_plan(tasks, plan)
    return sorted({name for _, name in named_paths(plan)})


def task_paths(tasks, plan):
    """Return the ascending list of the paths of the tasks, with all tries."""
    check_plan(tasks, plan)
    return [path for path, _ in named_paths(plan)]


def name_at(tasks, plan, path):
    """Return the name of the task at a task path."""
    check_plan(tasks, plan)
    names = {one: name for one, name in named_paths(plan)}
    if not is_path(path) or path not in names:
        raise InvalidPath("no task of the plan has this path")
    return names[path]


def size(tasks, plan):
    """Return the number of plans in a plan, with all tries."""
    check_form(tasks, plan)
    return _size(plan)


def span(tasks, plan):
    """Return the span of a plan: its greatest tick, if nothing in it ends early."""
    check_form(tasks, plan)
    return _span(tasks, plan)


def check_plan(tasks, plan):
    """Raise the error of tasks, or of a plan that is none or is too large."""
    check_form(tasks, plan)
    check_size(tasks, plan)


def check_size(tasks, plan):
    """Raise TooLarge if a plan is too large."""
    for number in (_size(plan), _span(tasks, plan)):
        if number > MOST_SIZE:
            raise TooLarge(number)


def check_form(tasks, plan):
    """Raise the error of tasks, or of a plan that is none, whatever its size and span."""
    path = fault_of(tasks, plan)
    if path is not None:
        raise InvalidPlan(path)


def steps_of(plan):
    """Return the list of (step, part) for what stands in a plan: paths within it are made of steps."""
    word = plan[0]
    if word == "task":
        return []
    if word in LIST_WORDS:
        return [((index,), part) for index, part in enumerate(plan[1])]
    if word == "again":
        return [((0,), plan[3])]
    if word == "watch":
        return [((0,), plan[2]), ((1,), plan[3])]
    return [((), plan[-1])]


def all_steps_of(plan):
    """Return the list of (step, part), with all tries."""
    if plan[0] == "again":
        return [((index,), plan[3]) for index in range(plan[1])]
    return steps_of(plan)


def named_paths(plan):
    """Return the list of (path, name) of the tasks, by ascending paths."""
    if plan[0] == "task":
        return [((), plan[1])]
    return [(step + path, name) for step, part in all_steps_of(plan) for path, name in named_paths(part)]


def copied_plan(value):
    """Return a plan that has nothing in common with a plan that could be changed."""
    if isinstance(value, tuple):
        return tuple([copied_plan(one) for one in value])
    if isinstance(value, list):
        return [copied_plan(one) for one in value]
    return value


def is_path(value):
    """Return whether any value has the form of a path."""
    return isinstance(value, tuple) and all([is_whole(index) for index in value])


def _has_form(tasks, value):
    if not isinstance(value, tuple) or len(value) < 2 or not isinstance(value[0], str):
        return False
    word = value[0]
    if word == "task":
        return len(value) == 2 and is_known(tasks, value[1])
    if word in LIST_WORDS:
        return len(value) == 2 and isinstance(value[1], list)
    return word in NUMBERS and _has_numbers(value)


def _has_numbers(value):
    bounds = NUMBERS[value[0]]
    plans = 2 if value[0] == "watch" else 1
    if len(value) != 1 + len(bounds) + plans:
        return False
    return all([is_between(number, low, high) for number, (low, high) in zip(value[1:], bounds)])


def _size(plan):
    if plan[0] == "again":
        return 1 + plan[1] * _size(plan[3])
    return 1 + sum([_size(part) for _, part in steps_of(plan)])


def _span(tasks, plan):
    word = plan[0]
    if word == "task":
        return last_tick(tasks[plan[1]])
    if word in ("order", "other"):
        return sum([_span(tasks, part) for part in plan[1]])
    if word in ("both", "race"):
        return max([_span(tasks, part) for part in plan[1]], default=0)
    inner = _span(tasks, plan[-1])
    if word == "again":
        return plan[1] * inner + (plan[1] - 1) * plan[2]
    if word == "within":
        return min(plan[1], inner)
    if word == "later":
        return plan[1] + inner
    if word == "watch":
        return max(inner, plan[1] + _span(tasks, plan[2]))
    return inner
