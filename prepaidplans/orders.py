"""Orders: the cheapest ones in which parts are done one behind the other."""

from prepaidplans.parts import check_parts, flow_with_amounts, priced, priced_parts
from prepaidplans.plans import check_plan
from prepaidplans.rows import fraction
from prepaidplans.turns import count_best, is_best, least_best


def price(tasks, plan):
    """Return the tuple (lost, money, risk): what is paid in a plan, and 1 less its chance."""
    check_plan(tasks, plan)
    turn = priced(flow_with_amounts(tasks, plan))
    return (fraction(turn.lost, turn.bottom), fraction(turn.money, turn.bottom), fraction(turn.stop, turn.bottom))


def best_order(tasks, parts):
    """Return the least best order of parts."""
    check_parts(tasks, parts)
    return least_best(priced_parts(tasks, parts))


def is_best_order(tasks, parts, value):
    """Return whether any value is a best order of parts."""
    check_parts(tasks, parts)
    return is_best(priced_parts(tasks, parts), value)


def count_best_orders(tasks, parts):
    """Return how many best orders of parts there are."""
    check_parts(tasks, parts)
    return count_best(priced_parts(tasks, parts))
