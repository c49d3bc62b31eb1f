"""Contexts: the numbers of a plan within a limit, by which plans with different rows can be told apart."""

from prepaidplans.checks import is_between
from prepaidplans.errors import InvalidKind, InvalidTick
from prepaidplans.parts import flow_with_amounts
from prepaidplans.plans import check_plan
from prepaidplans.rows import fraction
from prepaidplans.tallies import running

KINDS = ("done", "ended", "money", "lost", "undone", "lostundone")
LAST_CONTEXT = 400


def in_context(tasks, plan, kind, tick):
    """Return the number of this kind of the plan within a limit of so many ticks."""
    check_plan(tasks, plan)
    if not isinstance(kind, str) or kind not in KINDS:
        raise InvalidKind("a kind of context is done, ended, money, lost, undone or lostundone")
    if not is_between(tick, 0, LAST_CONTEXT):
        raise InvalidTick("the tick of a context is an integer from 0 to 400")
    flow = flow_with_amounts(tasks, plan)
    return fraction(_contexts(flow)[KINDS.index(kind)][tick], flow.bottom)


def are_alike(tasks, plan, other):
    """Return whether the rows of two plans are equal."""
    return parting(tasks, plan, other) is None


def parting(tasks, plan, other):
    """Return the tuple (kind, tick, first, second) of the first context that differs, or None."""
    check_plan(tasks, plan)
    check_plan(tasks, other)
    one = flow_with_amounts(tasks, plan)
    two = flow_with_amounts(tasks, other)
    ones = _contexts(one)
    twos = _contexts(two)
    for tick in range(LAST_CONTEXT + 1):
        for kind, mine, theirs in zip(KINDS, ones, twos):
            if mine[tick] * two.bottom != theirs[tick] * one.bottom:
                return (kind, tick, fraction(mine[tick], one.bottom), fraction(theirs[tick], two.bottom))
    return None


def _contexts(flow):
    """Return for each kind, in their order, its numbers at each tick, over the bottom of the flow."""
    ticks = LAST_CONTEXT + 1
    done = running(flow.done, ticks)
    failed = running(flow.failed, ticks)
    ended = [one + other for one, other in zip(done, failed)]
    # Behind a failure all that is paid remains so; otherwise what still stands is returned.
    lost_undone, undone = [running(paid, ticks) for paid in flow.paid]
    lost_back, back = [running(returned, ticks) for returned in flow.returned]
    money = [one - other for one, other in zip(undone, back)]
    lost = [one - other for one, other in zip(lost_undone, lost_back)]
    return [done, ended, money, lost, undone, lost_undone]
