"""Parts: lists of plans, and what each of them costs where it stands in an order."""

from prepaidplans.errors import InvalidParts
from prepaidplans.flows import flow_of, measure_of_lost, measure_of_money
from prepaidplans.plans import check_size, is_plan
from prepaidplans.tasks import check_tasks
from prepaidplans.turns import reduced

MOST_PARTS = 12


def check_parts(tasks, parts):
    """Raise the error of tasks, or of a list of parts that is none or has a part that is too large."""
    check_tasks(tasks)
    if not isinstance(parts, list) or len(parts) > MOST_PARTS:
        raise InvalidParts(None)
    for index, part in enumerate(parts):
        if not is_plan(tasks, part):
            raise InvalidParts(index)
    for part in parts:
        check_size(tasks, part)


def flow_with_amounts(tasks, plan):
    """Return the flow of a plan, with lost and money as its measures."""
    return flow_of(tasks, plan, [measure_of_lost(tasks), measure_of_money(tasks)])


def flows_of(tasks, parts):
    """Return the list of the flows of parts, with lost and money as their measures."""
    flows = []
    for index, part in enumerate(parts):
        first = parts.index(part)
        # Equal parts share one flow: it takes long to work out.
        flows.append(flow_with_amounts(tasks, part) if first == index else flows[first])
    return flows


def priced(flow):
    """Return the turn that a part is in an order: what is paid in it, and its risk."""
    lost, money = [sum(paid) for paid in flow.paid]
    return reduced(lost, money, flow.bottom - sum(flow.done), flow.bottom)


def priced_parts(tasks, parts):
    """Return the list of the turns that parts are in an order."""
    return [priced(flow) for flow in flows_of(tasks, parts)]
