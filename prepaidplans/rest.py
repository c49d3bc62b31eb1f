"""Rest: what is left of a plan behind a beginning, and what the next tick can bring."""

from prepaidplans.checks import is_tick, is_whole
from prepaidplans.courses import ends_by_path
from prepaidplans.errors import InvalidBeginning, InvalidTick, TooMany
from prepaidplans.flows import flow_with, measure_of_lost, measure_of_money
from prepaidplans.plans import check_plan, is_path
from prepaidplans.rows import fraction, sum_of
from prepaidplans.runs import OPEN, course_in, run_of, with_fate

MOST_NEWS = 2_000


def is_beginning(tasks, plan, value, now):
    """Return whether any value is a beginning of the plan at the tick now."""
    check_plan(tasks, plan)
    _check_now(now)
    return _is_beginning(ends_by_path(tasks, plan), plan, value, now)


def rest_of(tasks, plan, beginning, now):
    """Return the tuple (chance, money, lost, end) of all runs with this beginning."""
    ends = _ends_left(tasks, plan, beginning, now)
    flow = flow_with(tasks, plan, [measure_of_money(tasks), measure_of_lost(tasks)], ends)
    money, lost = flow.all_paid()
    numbers = [sum(flow.done), money, lost, flow.all_ends()]
    return tuple([fraction(number, flow.bottom) for number in numbers])


def news(tasks, plan, beginning, now):
    """Return the list of (share, beginning) of what can follow at now + 1, ascending by beginning."""
    ends = _ends_left(tasks, plan, beginning, now)
    choices = [(path, _choices(ends[path], now + 1 - begin)) for path, begin, _, word in beginning if word == OPEN]
    many = 1
    for _, chosen in choices:
        many *= len(chosen)
    if many > MOST_NEWS:
        raise TooMany(MOST_NEWS)
    followers = [((1, 1), _fates_in(beginning))]
    for path, chosen in choices:
        followers = [_followed(follower, path, choice) for follower in followers for choice in chosen]
    found = [(fraction(*share), course_in(run_of(plan, fates, now + 1))) for share, fates in followers]
    return sorted(found, key=_place_of)


def _check_now(now):
    if not is_tick(now):
        raise InvalidTick("the present tick is an integer from 0")


def _is_beginning(ends, plan, value, now):
    if not isinstance(value, list) or not all([_is_entry(ends, entry, now) for entry in value]):
        return False
    return course_in(run_of(plan, _fates_in(value), now)) == value


def _is_entry(ends, value, now):
    if not isinstance(value, tuple) or len(value) != 4:
        return False
    path, begin, end, word = value
    if not is_path(path) or path not in ends or not is_whole(begin) or not isinstance(word, str):
        return False
    if word == OPEN and end is not None:
        return False
    if word != OPEN and (not is_whole(end) or end > now):
        return False
    return _left_of(ends[path], value, now) != []


def _fates_in(beginning):
    """Return the fates of the tasks that have ended by themselves."""
    return {path: (end - begin, word) for path, begin, end, word in beginning if word in ("done", "failed")}


def _ends_left(tasks, plan, beginning, now):
    """Return for each task of a beginning, by its path, the ends that it can have, or raise the first error."""
    check_plan(tasks, plan)
    _check_now(now)
    ends = ends_by_path(tasks, plan)
    if not _is_beginning(ends, plan, beginning, now):
        raise InvalidBeginning("this is not a beginning of the plan at this tick")
    return {entry[0]: _left_of(ends[entry[0]], entry, now) for entry in beginning}


def _left_of(ends, entry, now):
    """Return those of the ends of a task that fit what a beginning shows of it."""
    _, begin, end, word = entry
    if word == OPEN:
        return [one for one in ends if one[0] > now - begin]
    if word == "stopped":
        return [one for one in ends if one[0] > end - begin]
    return [one for one in ends if one[:2] == (end - begin, word)]


def _choices(ends, ticks):
    """Return the list of (share, fate) of what a task can do so many ticks behind its begin: None if it goes on."""
    every = sum_of([share for _, _, share in ends])
    later = sum_of([share for tick, _, share in ends if tick > ticks])
    choices = [(share, (tick, word)) for tick, word, share in ends if tick == ticks]
    if later[0] > 0:
        choices.append((later, None))
    return [((share[0] * every[1], share[1] * every[0]), fate) for share, fate in choices]


def _followed(follower, path, choice):
    """Return the (share, fates) with one task more that has chosen; the share is not in lowest terms."""
    (top, bottom), fates = follower
    share, fate = choice
    told = fates if fate is None else with_fate(fates, path, fate)
    return ((top * share[0], bottom * share[1]), told)


def _place_of(follower):
    """Return what followers are ordered by: their beginnings, with None ahead of all integers."""
    return [(path, begin, -1 if end is None else end, word) for path, begin, end, word in follower[1]]
