"""Flows: how and when plans end, and what is paid in them, as tallies over one bottom.

One algebra serves two ends. Over shares a flow tells chances and means. Over counts, where each end of a task is 1, it
tells how many courses there are; then every bottom is 1, and nothing is measured.
"""

from math import gcd, lcm

from prepaidplans.plans import named_paths, steps_of
from prepaidplans.tallies import (
    added, at_tick, follow, moved, product_of, products_beside, running, scaled, steps, taken,
)


class Measure:
    """What is paid for: costs and undos by names, 0 for the others, and whether backs are paid for too."""

    def __init__(self, costs, undos, backs):
        self.costs = costs
        self.undos = undos
        self.backs = backs


class Flow:
    """The runs of a plan: done and failed where it ends so, going where it has not ended at a tick or ahead of it.

    paid and returned have one tally for each measure.
    """

    def __init__(self, bottom, done, failed, going, paid, returned):
        self.bottom = bottom
        self.done = done
        self.failed = failed
        self.going = going
        self.paid = paid
        self.returned = returned

    def all_paid(self):
        """Return for each measure what is paid in all, less what is returned in all, over the bottom."""
        return [sum(paid) - sum(returned) for paid, returned in zip(self.paid, self.returned)]

    def all_ends(self):
        """Return the sum of the ticks at which the runs end, over the bottom."""
        return sum([tick * number for tick, number in enumerate(added(self.done, self.failed))])


def measure_of_money(tasks):
    """Return the measure of the money."""
    return Measure({name: tasks[name][0] for name in tasks}, {name: tasks[name][1] or 0 for name in tasks}, True)


def measure_of_lost(tasks):
    """Return the measure of lost: only what cannot be undone counts, once each."""
    return Measure({}, {name: 1 for name in tasks if tasks[name][1] is None}, False)


class Leaves:
    """The flows of tasks: by their names, and of some by their paths; and for each measure whether backs count."""

    def __init__(self, named, placed, backs):
        self.named = named
        self.placed = placed
        self.backs = backs

    def flow_at(self, path, name):
        """Return the flow of the task at this path."""
        return self.placed[path] if path in self.placed else self.named[name]

    def placed_tries(self, path):
        """Return how many tries of the again at this path have tasks of their own flows in them, or behind them."""
        level = len(path)
        return max([place[level] + 1 for place in self.placed if place[:level] == path], default=0)


def flow_of(tasks, plan, measures):
    """Return the flow of a plan over shares, with these measures."""
    return flow_with(tasks, plan, measures, {})


def flow_with(tasks, plan, measures, ends):
    """Return the flow of a plan in which the tasks at some paths have these of their ends only."""
    named = {name: _task_flow(tasks[name][2], name, measures) for name in tasks}
    placed = {path: _task_flow(ends[path], name, measures) for path, name in named_paths(plan) if path in ends}
    return _flow(plan, (), Leaves(named, placed, [measure.backs for measure in measures]))


def count_runs(tasks, plan):
    """Return how many courses a plan has."""
    flow = _flow(plan, (), Leaves({name: _task_count(tasks[name][2]) for name in tasks}, {}, []))
    return sum(flow.done) + sum(flow.failed)


def _task_flow(ends, name, measures):
    least = 1
    for _, _, share in ends:
        least = lcm(least, share[1])
    weights = _in_lowest_terms([top * (least // part) for _, _, (top, part) in ends])
    # This is not the least common bottom where some ends are missing: the others make up all runs.
    bottom = sum(weights)
    done = _tally_of(ends, "done", weights)
    failed = _tally_of(ends, "failed", weights)
    going = [bottom - ended for ended in running(added(done, failed), ends[-1][0])]
    returned = [scaled(done, measure.undos.get(name, 0)) for measure in measures]
    paid = [added([measure.costs.get(name, 0) * bottom], row) for measure, row in zip(measures, returned)]
    return Flow(bottom, done, failed, going, paid, returned)


def _task_count(ends):
    # A task that is stopped is so in one way only, however it could have ended.
    weights = [1] * len(ends)
    return Flow(1, _tally_of(ends, "done", weights), _tally_of(ends, "failed", weights), [1] * ends[-1][0], [], [])


def _in_lowest_terms(weights):
    divisor = 0
    for weight in weights:
        divisor = gcd(divisor, weight)
    return [weight // divisor for weight in weights]


def _tally_of(ends, word, weights):
    tally = [0] * (ends[-1][0] + 1)
    for (tick, how, _), weight in zip(ends, weights):
        if how == word:
            tally[tick] = weight
    return tally


def _flow(plan, path, leaves):
    word = plan[0]
    many = len(leaves.backs)
    if word == "task":
        return leaves.flow_at(path, plan[1])
    if word == "again":
        return _tried(plan, path, leaves)
    parts = [_flow(part, path + step, leaves) for step, part in steps_of(plan)]
    if word == "order":
        return _order(parts, many)
    if word == "other":
        return _other(parts, many)
    if word == "both":
        return _both(parts, many)
    if word == "race":
        return _race(parts, many)
    if word == "watch":
        return _watched(parts[1], parts[0], plan[1])
    return _around(plan, parts[0], leaves.backs)


def _around(plan, part, backs):
    word = plan[0]
    if word == "within":
        return _within(part, plan[1])
    if word == "later":
        return _later(part, plan[1])
    if word == "keep":
        return _covered(part, [0 for _ in backs])
    if word == "back":
        return _covered(part, [plan[1] if counts else 0 for counts in backs])
    return Flow(part.bottom, added(part.done, part.failed), [], part.going, part.paid, part.returned)


def _tried(plan, path, leaves):
    _, tries, wait, part = plan
    first = leaves.placed_tries(path)
    parts = [_flow(part, path + (index,), leaves) for index in range(first)]
    if first < tries:
        # The other tries are all alike.
        parts.append(_again(_flow(part, path + (first,), leaves), tries - first, wait))
    return _other(parts[:1] + [_later(one, wait) for one in parts[1:]], len(leaves.backs))


def _order(parts, many):
    so_far = Flow(1, [1], [], [], _nothing(many), _nothing(many))
    for part in parts:
        # What stands in the parts so far still does when this one is done.
        returned = [added(follow(old, part.done), follow(so_far.done, new))
                    for old, new in zip(so_far.returned, part.returned)]
        so_far = _then(so_far, part, returned)
    return so_far


def _other(parts, many):
    # An order with done and failed exchanged; but behind a part that fails nothing of it stands.
    so_far = Flow(1, [1], [], [], _nothing(many), _nothing(many))
    for part in parts:
        returned = [added(scaled(old, part.bottom), follow(so_far.done, new))
                    for old, new in zip(so_far.returned, part.returned)]
        so_far = _then(so_far, _swapped(part), returned)
    return _swapped(so_far)


def _then(one, part, returned):
    """The one, and the part behind it if it is done, with this returned."""
    wide = part.bottom
    failed = added(scaled(one.failed, wide), follow(one.done, part.failed))
    going = added(scaled(one.going, wide), follow(one.done, part.going))
    paid = [added(scaled(old, wide), follow(one.done, new)) for old, new in zip(one.paid, part.paid)]
    return Flow(one.bottom * wide, follow(one.done, part.done), failed, going, paid, returned)


def _nothing(many):
    return [[] for _ in range(many)]


def _again(part, tries, wait):
    # As an other of equal parts, but faster: all tries together are the part at the ticks at which they begin.
    wide = part.bottom
    bottom = wide
    begins = [1]
    last_begin = [1]
    waiting = []
    for _ in range(tries - 1):
        failed = follow(last_begin, part.failed)
        waiting = added(scaled(waiting, wide), follow(failed, [1] * wait))
        last_begin = moved(failed, wait)
        begins = added(scaled(begins, wide), last_begin)
        bottom *= wide
    going = added(follow(begins, part.going), scaled(waiting, wide))
    paid = [follow(begins, row) for row in part.paid]
    returned = [follow(begins, row) for row in part.returned]
    return Flow(bottom, follow(begins, part.done), follow(last_begin, part.failed), going, paid, returned)


def _within(part, limit):
    end = limit + 1
    failed = part.failed[:end]
    if at_tick(part.going, limit) != 0:
        failed = added(failed, moved([part.going[limit]], limit))
    paid = [row[:end] for row in part.paid]
    returned = [row[:end] for row in part.returned]
    return Flow(part.bottom, part.done[:end], failed, part.going[:limit], paid, returned)


def _later(part, ticks):
    paid = [moved(row, ticks) for row in part.paid]
    returned = [moved(row, ticks) for row in part.returned]
    going = [part.bottom] * ticks + part.going
    return Flow(part.bottom, moved(part.done, ticks), moved(part.failed, ticks), going, paid, returned)


def _covered(part, costs):
    """The part, with what stands in it returned, and for each measure a cost paid instead when it is done."""
    returned = [scaled(part.done, cost) for cost in costs]
    paid = [taken(added(row, new), old) for row, new, old in zip(part.paid, returned, part.returned)]
    return Flow(part.bottom, part.done, part.failed, part.going, paid, returned)


def _watched(part, side, tick):
    # Over counts the side multiplies the runs in which it begins; over shares all of its runs make up its bottom.
    runs = sum(side.done) + sum(side.failed)
    begun = at_tick(part.going, tick)
    paid = [added(scaled(row, side.bottom), moved([begun * mean], tick))
            for row, mean in zip(part.paid, side.all_paid())]
    returned = [scaled(row, side.bottom) for row in part.returned]
    done = _widened(part.done, tick + 1, side.bottom, runs)
    failed = _widened(part.failed, tick + 1, side.bottom, runs)
    return Flow(part.bottom * side.bottom, done, failed, _widened(part.going, tick, side.bottom, runs), paid, returned)


def _widened(tally, ticks, early, late):
    return scaled(tally[:ticks], early) + scaled(tally[ticks:], late)


def _both(parts, many):
    ticks = _ticks_of(parts)
    done = [running(part.done, ticks) for part in parts]
    beside = products_beside(done, done, ticks)
    returned = []
    for index in range(many):
        so_far = [running(part.returned[index], ticks) for part in parts]
        returned.append(steps(_sum_of_products(so_far, beside)))
    return _together(parts, ticks, returned)


def _race(parts, many):
    ticks = _ticks_of(parts)
    # A race is a both with done and failed exchanged; but of those that are done at its tick only the winner counts.
    swapped = [_swapped(part) for part in parts]
    ahead = [_calm(part, ticks) for part in swapped]
    beside = products_beside(ahead, [_alive(part, ticks) for part in swapped], ticks)
    returned = [_sum_of_products([part.returned[index] for part in parts], beside) for index in range(many)]
    return _swapped(_together(swapped, ticks, returned))


def _together(parts, ticks, returned):
    """The both of parts in which this is returned."""
    bottom = 1
    for part in parts:
        bottom *= part.bottom
    alive = [_alive(part, ticks) for part in parts]
    all_done = product_of([running(part.done, ticks) for part in parts], ticks)
    all_calm = product_of([_calm(part, ticks) for part in parts], ticks)
    all_alive = product_of(alive, ticks)
    # A part pays as long as no other one has failed ahead of this tick.
    beside = products_beside(alive, alive, ticks)
    paid = [_sum_of_products([part.paid[index] for part in parts], beside) for index in range(len(returned))]
    return Flow(bottom, steps(all_done), taken(all_alive, all_calm), taken(all_calm, all_done), paid, returned)


def _ticks_of(parts):
    return max([max(len(part.done), len(part.failed), len(part.going)) for part in parts], default=1)


def _calm(part, ticks):
    """For each tick the runs of a part that has not failed at it or ahead of it."""
    return added(running(part.done, ticks), part.going)


def _alive(part, ticks):
    """For each tick the runs of a part that has not failed ahead of it."""
    return added(_calm(part, ticks), part.failed)


def _swapped(flow):
    return Flow(flow.bottom, flow.failed, flow.done, flow.going, flow.paid, flow.returned)


def _sum_of_products(tallies, factors):
    total = []
    for tally, numbers in zip(tallies, factors):
        total = added(total, [one * other for one, other in zip(tally, numbers)])
    return total
