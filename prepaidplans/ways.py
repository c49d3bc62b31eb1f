"""Ways: the cheapest orders in which parts are tried until one is done, by the chance that what follows fails."""

from prepaidplans.errors import InvalidShare, TooMany
from prepaidplans.parts import check_parts, flows_of
from prepaidplans.rows import fraction, is_fraction, is_less, over, plus
from prepaidplans.turns import Turn, is_best, least_best

MOST_WITH_RANGES = 7

NONE = (0, 1)
ALL = (1, 1)


class Way:
    """A part as a way: for each of lost and money its mean and what stands when it is done, and its chance.

    All of this is over one bottom.
    """

    def __init__(self, flow):
        self.means = flow.all_paid()
        self.stands = [sum(returned) for returned in flow.returned]
        self.chance = sum(flow.done)
        self.bottom = flow.bottom

    def turn_at(self, fails):
        """Return the turn that the way is if what follows fails with this share."""
        top, bottom = fails
        lost, money = [mean * bottom + stands * top for mean, stands in zip(self.means, self.stands)]
        return Turn(lost, money, self.chance * bottom, self.bottom * bottom)


def best_ways(tasks, parts, fails):
    """Return the least order of parts as ways that costs no more than any other one."""
    return least_best(_turns_at(tasks, parts, fails))


def is_best_ways(tasks, parts, fails, value):
    """Return whether any value is an order of parts as ways that costs no more than any other one."""
    return is_best(_turns_at(tasks, parts, fails), value)


def ranges(tasks, parts):
    """Return the list of (low, high, order): between low and high this is the best order of ways."""
    check_parts(tasks, parts)
    if len(parts) > MOST_WITH_RANGES:
        raise TooMany(MOST_WITH_RANGES)
    ways = _ways_of(tasks, parts)
    found = []
    low = NONE
    for high in _turning_points(ways) + [ALL]:
        middle = over(plus(low, high), (2, 1))
        order = least_best([way.turn_at(middle) for way in ways])
        if found and found[-1][2] == order:
            found[-1] = (found[-1][0], high, order)
        else:
            found.append((low, high, order))
        low = high
    return found


def _turns_at(tasks, parts, fails):
    check_parts(tasks, parts)
    if not is_fraction(fails) or not 0 <= fails[0] <= fails[1]:
        raise InvalidShare("a share is a fraction from 0 to 1")
    return [way.turn_at(fails) for way in _ways_of(tasks, parts)]


def _ways_of(tasks, parts):
    return [Way(flow) for flow in flows_of(tasks, parts)]


def _turning_points(ways):
    """Return the ascending list of the shares between 0 and 1 at which one of two ways can become the cheaper one."""
    points = []
    for index, one in enumerate(ways):
        for other in ways[:index]:
            for point in _crossings(one, other):
                if is_less(NONE, point) and is_less(point, ALL) and point not in points:
                    points.append(point)
    return _ascending(points)


def _crossings(one, other):
    """Return the list of the numbers at which two ways cost the same of lost, or of money, for their chances."""
    found = []
    for mean, stands, mean_there, stands_there in zip(one.means, one.stands, other.means, other.stands):
        # How much dearer the one is, for its chance, is a line: this at 0, and so much more at 1.
        begin = mean * other.chance - mean_there * one.chance
        slope = stands * other.chance - stands_there * one.chance
        if slope != 0:
            found.append(fraction(-begin, slope))
    return found


def _ascending(points):
    found = []
    for point in points:
        less = [one for one in found if is_less(one, point)]
        found = less + [point] + found[len(less):]
    return found
