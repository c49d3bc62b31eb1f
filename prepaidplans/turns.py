"""Turns: what is begun one behind the other, until one of them ends the row.

A turn costs a pair (lost, money), and with a chance it stops the row: nothing behind it begins. In an order that is the
chance that a part fails, in an other the chance that a part is done. Two neighbours are cheaper with the one ahead that
costs less for each unit of this chance, whatever else is in the row.
"""

from math import factorial, gcd, perm

from prepaidplans.checks import is_whole


class Turn:
    """A cost of lost and money, and the chance stop that nothing behind it begins, all over one bottom."""

    def __init__(self, lost, money, stop, bottom):
        self.lost = lost
        self.money = money
        self.stop = stop
        self.bottom = bottom

    def cost(self):
        """Return the pair of costs, over the bottom."""
        return (self.lost, self.money)

    def is_idle(self):
        """Return whether it makes no difference where the turn stands."""
        return self.lost == 0 and self.money == 0 and self.stop == 0

    def is_last(self):
        """Return whether nothing behind it ever begins."""
        return self.stop == self.bottom


def reduced(lost, money, stop, bottom):
    """Return the turn with these numbers, over the least bottom."""
    divisor = gcd(lost, money, stop, bottom)
    return Turn(lost // divisor, money // divisor, stop // divisor, bottom // divisor)


def joined(turns):
    """Return the turn that a row of turns is, over the product of their bottoms."""
    lost, money, going, bottom = 0, 0, 1, 1
    for turn in turns:
        lost = lost * turn.bottom + going * turn.lost
        money = money * turn.bottom + going * turn.money
        going *= turn.bottom - turn.stop
        bottom *= turn.bottom
    return Turn(lost, money, bottom - going, bottom)


def is_cheaper(one, other):
    """Return whether the first turn costs less for its stop than the second one: so it is cheaper ahead of it."""
    return (one.lost * other.stop, one.money * other.stop) < (other.lost * one.stop, other.money * one.stop)


def ranks_of(turns):
    """Return for each turn how many are cheaper; turns with equal ranks can be exchanged."""
    return [len([other for other in turns if is_cheaper(other, one)]) for one in turns]


def is_order(value, many):
    """Return whether any value is a list of the indexes below many, each once."""
    if not isinstance(value, list) or not all([is_whole(index) for index in value]):
        return False
    return sorted(value) == list(range(many))


def is_best(turns, value):
    """Return whether any value is an order of turns than which none costs less."""
    if not is_order(value, len(turns)):
        return False
    return row_cost(turns, value) == row_cost(turns, least_best(turns))


def row_cost(turns, order):
    """Return the pair of costs of an order of all turns; those of other orders of them have the same bottom."""
    return joined([turns[index] for index in order]).cost()


def least_best(turns):
    """Return the least order of turns than which none costs less."""
    ranks = ranks_of(turns)
    waiting = list(range(len(turns)))
    order = []
    ended = False
    while waiting:
        lowest = min([ranks[index] for index in waiting if not turns[index].is_idle()], default=0)
        # Behind a turn that always stops the row, the order is free.
        free = [index for index in waiting if ended or turns[index].is_idle() or ranks[index] == lowest]
        order.append(free[0])
        waiting.remove(free[0])
        ended = ended or turns[free[0]].is_last()
    return order


def count_best(turns):
    """Return how many orders of turns there are than which none costs less."""
    busy = [turn for turn in turns if not turn.is_idle()]
    # The idle ones stand anywhere between the others.
    count = factorial(len(turns)) // factorial(len(busy))
    ranks = ranks_of(busy)
    behind = len(busy)
    for rank in sorted(set(ranks)):
        group = [turn for turn, other in zip(busy, ranks) if other == rank]
        behind -= len(group)
        last = len([turn for turn in group if turn.is_last()])
        if last > 0:
            return count * _count_ended(len(group) - last, last, behind)
        count *= factorial(len(group))
    return count


def _count_ended(going, last, behind):
    """Count the orders of equal turns, so many of which stop the row always, and of so many dearer ones.

    Ahead of the first one that stops the row no dearer one stands; behind it the order is free.
    """
    counts = [perm(going, ahead) * last * factorial(going - ahead + last - 1 + behind) for ahead in range(going + 1)]
    return sum(counts)
