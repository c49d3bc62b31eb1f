"""Choices: what a plan is worth, and the limits and delays with which it is worth most."""

from prepaidplans.checks import is_between
from prepaidplans.errors import InvalidKind, InvalidName, InvalidNumber
from prepaidplans.flows import Measure, flow_of, measure_of_money
from prepaidplans.plans import check_plan, span
from prepaidplans.rows import fraction
from prepaidplans.tallies import added, moved, running, scaled, sum_of_products, taken
from prepaidplans.tasks import is_known

MOST_PAY = 1_000_000_000_000
MOST_DELAY = 100


class Limited:
    """A plan within each limit up to its span: for each tick its chance, mean money and mean end, over the bottom."""

    def __init__(self, flow, ticks):
        paid = running(flow.paid[0], ticks)
        returned = running(flow.returned[0], ticks)
        self.done = running(flow.done, ticks)
        self.money = [one - other for one, other in zip(paid, returned)]
        # With each tick at which it is still going, the plan ends one tick later.
        self.ends = running(moved(flow.going, 1), ticks)


class Racer:
    """One of two plans in a race: for each tick its runs in which it is not done, or has failed, ahead of the tick.

    paid and returned are tallies; all is over the bottom.
    """

    def __init__(self, flow, ticks):
        self.bottom = flow.bottom
        self.waiting = [flow.bottom - done for done in running(moved(flow.done, 1), ticks)]
        self.failed = running(moved(flow.failed, 1), ticks)
        self.paid = flow.paid[0]
        self.returned = flow.returned[0]


def worth(tasks, plan, reward, rate):
    """Return reward times the chance, less the mean money, less rate times the mean end."""
    check_plan(tasks, plan)
    _check_pay(reward, rate)
    flow = _flow_of(tasks, plan)
    return fraction(_worth_of(flow, reward, rate), flow.bottom)


def by_limit(tasks, plan):
    """Return the list of (T, chance, money) of a plan within T, for each T at which one of the two changes."""
    check_plan(tasks, plan)
    flow = _flow_of(tasks, plan)
    limited = Limited(flow, span(tasks, plan) + 1)
    found = []
    last = None
    for tick, now in enumerate(zip(limited.done, limited.money)):
        if now != last:
            found.append((tick, fraction(now[0], flow.bottom), fraction(now[1], flow.bottom)))
        last = now
    return found


def best_limit(tasks, plan, other, reward, rate):
    """Return the tuple (T, worth) of the best limit for a plan, behind which comes the other one."""
    check_plan(tasks, plan)
    check_plan(tasks, other)
    _check_pay(reward, rate)
    one = _flow_of(tasks, plan)
    two = _flow_of(tasks, other)
    limited = Limited(one, span(tasks, plan) + 1)
    behind = _worth_of(two, reward, rate)
    worths = []
    for done, money, ends in zip(limited.done, limited.money, limited.ends):
        within = reward * done - money - rate * ends
        worths.append(within * two.bottom + (one.bottom - done) * behind)
    return _first_best(worths, one.bottom * two.bottom)


def best_delay(tasks, plan, other, most, reward, rate):
    """Return the tuple (k, worth) of the best delay of at most so many ticks for the other one, beside a plan."""
    check_plan(tasks, plan)
    check_plan(tasks, other)
    if not is_between(most, 0, MOST_DELAY):
        raise InvalidNumber("the most is an integer from 0 to 100")
    _check_pay(reward, rate)
    one = _flow_of(tasks, plan)
    two = _flow_of(tasks, other)
    ticks = max(span(tasks, plan), span(tasks, other) + most) + 2
    worths = _worths_of_races(Racer(one, ticks), Racer(two, ticks), most, reward, rate)
    return _first_best(worths, one.bottom * two.bottom)


def line_of(tasks, plan, name, what):
    """Return the tuple (a, b): the mean money is a + b * x with x as the cost, or the undo cost, of a task."""
    check_plan(tasks, plan)
    if not is_known(tasks, name):
        raise InvalidName("no task has this name")
    if not isinstance(what, str) or what not in ("cost", "undo"):
        raise InvalidKind("a kind of cost is cost or undo")
    if what == "undo" and tasks[name][1] is None:
        raise InvalidName("the task cannot be undone")
    cost, undo, ends = tasks[name]
    if what == "cost":
        free = (0, undo, ends)
        each = Measure({name: 1}, {}, False)
    else:
        free = (cost, 0, ends)
        each = Measure({}, {name: 1}, False)
    # Money is a sum: what it is with 0 there, and x for each time that the task begins, or is undone.
    flow = flow_of(tasks, plan, [measure_of_money({**tasks, name: free}), each])
    begin, slope = flow.all_paid()
    return (fraction(begin, flow.bottom), fraction(slope, flow.bottom))


def _check_pay(reward, rate):
    if not is_between(reward, 0, MOST_PAY) or not is_between(rate, 0, MOST_PAY):
        raise InvalidNumber("a reward and a rate are integers from 0 to 10 ** 12")


def _flow_of(tasks, plan):
    return flow_of(tasks, plan, [measure_of_money(tasks)])


def _worth_of(flow, reward, rate):
    """Return the worth of a plan, over the bottom of its flow."""
    return reward * sum(flow.done) - flow.all_paid()[0] - rate * flow.all_ends()


def _worths_of_races(one, two, most, reward, rate):
    """Return for each delay of the second plan the worth of the race of both, over the product of their bottoms."""
    # Each one pays at a tick if the other one is not done ahead of it. The first one wins, and what stands in it is
    # returned, also if both are done at once; the second one only if the first one is not done ahead of the next tick.
    # And each tick but 0 costs the rate if none is done ahead of it and not both have failed.
    mine = added(taken(one.paid, one.returned), scaled(one.waiting, rate))
    theirs = taken(two.paid, moved(two.returned, 1))
    chance = one.bottom * two.bottom - one.failed[-1] * two.failed[-1]
    worths = []
    for delay in range(most + 1):
        costs = sum_of_products(mine, [two.bottom] * delay + two.waiting)
        costs += sum_of_products(one.waiting, moved(theirs, delay))
        costs -= rate * sum_of_products(one.failed, moved(two.failed, delay))
        worths.append(reward * chance - costs + rate * one.bottom * two.bottom)
    return worths


def _first_best(worths, bottom):
    best = max(worths)
    return (worths.index(best), fraction(best, bottom))
