"""Tallies: lists of integers by ticks, from tick 0 on; behind their end all is 0."""


def at_tick(tally, tick):
    """Return the number at a tick."""
    return tally[tick] if tick < len(tally) else 0


def added(one, other):
    """Return the tally that adds two, tick by tick."""
    if len(one) < len(other):
        return added(other, one)
    return [number + other[tick] if tick < len(other) else number for tick, number in enumerate(one)]


def taken(one, other):
    """Return the first tally less the second one, tick by tick."""
    return added(one, scaled(other, -1))


def scaled(tally, factor):
    """Return a tally with each number multiplied."""
    return [number * factor for number in tally]


def moved(tally, ticks):
    """Return a tally so much later."""
    return [0] * ticks + tally


def follow(one, other):
    """Return the products of a number of the one and a number of the other, added by the sums of their ticks."""
    result = [0] * (len(one) + len(other) - 1)
    later = [(tick, number) for tick, number in enumerate(other) if number != 0]
    for begin, factor in enumerate(one):
        if factor != 0:
            for tick, number in later:
                result[begin + tick] += factor * number
    return result


def running(tally, ticks):
    """Return for each of so many ticks the sum up to it."""
    sums = []
    total = 0
    for tick in range(ticks):
        total += at_tick(tally, tick)
        sums.append(total)
    return sums


def steps(sums):
    """Return the tally of which these are the sums up to each tick."""
    return taken(sums, moved(sums[:-1], 1))


def sum_of_products(one, other):
    """Return the sum over all ticks of the product of the numbers of both tallies at it."""
    return sum([number * factor for number, factor in zip(one, other)])


def product_of(tallies, ticks):
    """Return for each of so many ticks the product of the numbers of all tallies at it."""
    result = [1] * ticks
    for tally in tallies:
        result = [one * other for one, other in zip(result, tally)]
    return result


def products_beside(ahead, behind, ticks):
    """Return for each index the product of the tallies of ahead at lower indexes and of behind at higher ones."""
    below = [[1] * ticks]
    for tally in ahead[:-1]:
        below.append(product_of([below[-1], tally], ticks))
    above = [[1] * ticks]
    for tally in behind[:0:-1]:
        above.append(product_of([above[-1], tally], ticks))
    many = len(ahead)
    return [product_of([below[index], above[many - 1 - index]], ticks) for index in range(many)]
