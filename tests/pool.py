"""Parts of every kind, with their prices as the oracle reckons them; no tests itself."""

import itertools
from fractions import Fraction

from oracle import Means

HALF = [(1, "done", (1, 2)), (1, "failed", (1, 2))]
THIRD = [(1, "failed", (1, 3)), (2, "done", (2, 3))]
RARELY = [(1, "done", (1, 4)), (2, "failed", (3, 4))]
SURE = [(1, "done", (1, 1))]
NEVER = [(2, "failed", (1, 1))]

# Costs and undo costs: free ones, equal ones, and such that cannot be undone.
TASKS = {
    "a": (4, 2, HALF), "b": (4, 2, HALF), "c": (2, None, SURE), "d": (3, None, THIRD), "e": (1, 3, RARELY),
    "f": (0, 0, HALF), "g": (0, 0, SURE), "h": (6, None, HALF), "i": (5, 7, NEVER), "j": (0, 0, NEVER), "k": (7, 1, SURE),
    "l": (9, None, NEVER),
}

PARTS = [("task", name) for name in TASKS] + [
    ("order", []), ("other", []), ("keep", ("task", "d")), ("keep", ("task", "c")), ("back", 5, ("task", "c")),
    ("easy", ("task", "a")), ("order", [("task", "a"), ("task", "d")]), ("race", [("task", "a"), ("task", "e")]),
    ("again", 2, 1, ("task", "a")), ("within", 1, ("task", "d")), ("watch", 1, ("order", [("task", "c"), ("other", [])]),
                                                                   ("task", "e")),
]

FACTS = {}


class Facts:
    """What a part is in an order and as a way; lost ahead of money."""

    def __init__(self, part):
        means = Means(TASKS, part)
        paid, returned = means.rows[2], means.rows[3]
        self.price = tuple(sum((row[index] for row in paid.values()), Fraction(0)) for index in (1, 0))
        self.stands = tuple(sum((row[index] for row in returned.values()), Fraction(0)) for index in (1, 0))
        self.mean = (means.lost, means.money)
        self.chance = means.chance


def facts_of(part):
    """Return the facts of a part of this file, reckoned once."""
    if repr(part) not in FACTS:
        FACTS[repr(part)] = Facts(part)
    return FACTS[repr(part)]


def cost(rows):
    """Return the cost of a list of (pair, going): pairs, and the chances that what stands behind begins."""
    total, ahead = [Fraction(0), Fraction(0)], Fraction(1)
    for pair, going in rows:
        total = [one + ahead * other for one, other in zip(total, pair)]
        ahead *= going
    return tuple(total)


def order_cost(parts, order):
    """Return the cost of an order of parts, as a pair."""
    facts = [facts_of(parts[index]) for index in order]
    return cost([(one.price, one.chance) for one in facts])


def ways_cost(parts, order, fails):
    """Return the cost of an order of parts as ways, as a pair."""
    facts = [facts_of(parts[index]) for index in order]
    fails = Fraction(*fails)
    return cost([(tuple(mean + fails * stands for mean, stands in zip(one.mean, one.stands)), 1 - one.chance)
                 for one in facts])


def cheapest(parts, price_of):
    """Return the ascending list of all orders than which none costs less."""
    costs = {order: price_of(order) for order in itertools.permutations(range(len(parts)))}
    least = min(costs.values())
    return [list(order) for order in sorted(costs) if costs[order] == least]
