"""Means: the chance of a plan, what it costs, and its rows, over all of its runs."""

from prepaidplans.checks import is_whole
from prepaidplans.errors import InvalidWeights
from prepaidplans.flows import Measure, flow_of, measure_of_lost, measure_of_money
from prepaidplans.plans import check_plan, names_in
from prepaidplans.rows import fraction
from prepaidplans.tallies import at_tick
from prepaidplans.tasks import is_known


def rows_of(tasks, plan):
    """Return the tuple (done, failed, paid, returned) of the rows of a plan."""
    check_plan(tasks, plan)
    flow = flow_of(tasks, plan, [measure_of_money(tasks), measure_of_lost(tasks)])
    done = _shares(flow.done, flow.bottom)
    failed = _shares(flow.failed, flow.bottom)
    return (done, failed, _amounts(flow.paid, flow.bottom), _amounts(flow.returned, flow.bottom))


def chance(tasks, plan):
    """Return the share of the runs in which the plan is done."""
    check_plan(tasks, plan)
    flow = flow_of(tasks, plan, [])
    return fraction(sum(flow.done), flow.bottom)


def mean_end(tasks, plan):
    """Return the mean tick at which the plan ends."""
    check_plan(tasks, plan)
    flow = flow_of(tasks, plan, [])
    return fraction(flow.all_ends(), flow.bottom)


def mean_money(tasks, plan):
    """Return the mean of the money."""
    check_plan(tasks, plan)
    return _means(tasks, plan, [measure_of_money(tasks)])[0]


def mean_lost(tasks, plan):
    """Return the mean number of tasks that are lost."""
    check_plan(tasks, plan)
    return _means(tasks, plan, [measure_of_lost(tasks)])[0]


def mean_begins(tasks, plan):
    """Return a dict from the names in a plan to the mean numbers of their tasks that begin."""
    names = names_in(tasks, plan)
    means = _means(tasks, plan, [Measure({name: 1}, {}, False) for name in names])
    return {name: mean for name, mean in zip(names, means)}


def mean_undos(tasks, plan):
    """Return a dict from the names in a plan to the mean numbers of their tasks that are undone by themselves."""
    names = names_in(tasks, plan)
    means = _means(tasks, plan, [Measure({}, {name: 1}, False) for name in names])
    return {name: mean for name, mean in zip(names, means)}


def measured(tasks, plan, weights):
    """Return the mean of the sum of the weights of what begins and of what is undone by itself."""
    check_plan(tasks, plan)
    if not _are_weights(tasks, weights):
        raise InvalidWeights("weights are a dict from names of tasks to tuples of two integers")
    begins = {name: weights[name][0] for name in weights}
    undos = {name: weights[name][1] for name in weights}
    return _means(tasks, plan, [Measure(begins, undos, False)])[0]


def _means(tasks, plan, measures):
    flow = flow_of(tasks, plan, measures)
    return [fraction(total, flow.bottom) for total in flow.all_paid()]


def _shares(tally, bottom):
    return [(tick, fraction(number, bottom)) for tick, number in enumerate(tally) if number != 0]


def _amounts(tallies, bottom):
    money, lost = tallies
    found = []
    for tick in range(max(len(money), len(lost))):
        one = at_tick(money, tick)
        other = at_tick(lost, tick)
        if one != 0 or other != 0:
            found.append((tick, fraction(one, bottom), fraction(other, bottom)))
    return found


def _are_weights(tasks, value):
    if not isinstance(value, dict) or not all([is_known(tasks, name) for name in value]):
        return False
    return all([_is_weight(value[name]) for name in value])


def _is_weight(value):
    return isinstance(value, tuple) and len(value) == 2 and is_whole(value[0]) and is_whole(value[1])
