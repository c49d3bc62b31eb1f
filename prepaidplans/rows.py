"""Fractions, as tuples (top, bottom), and rows of fractions by ticks."""

from math import gcd

from prepaidplans.checks import is_tick, is_whole
from prepaidplans.errors import InvalidFraction, InvalidRow, InvalidTick

ZERO = (0, 1)


def is_fraction(value):
    """Return whether any value is a fraction in lowest terms with a bottom above 0."""
    if not isinstance(value, tuple) or len(value) != 2:
        return False
    top, bottom = value
    return is_whole(top) and is_whole(bottom) and bottom >= 1 and gcd(top, bottom) == 1


def fraction(top, bottom=1):
    """Return the fraction top / bottom."""
    if not is_whole(top) or not is_whole(bottom) or bottom == 0:
        raise InvalidFraction("a fraction is made of two integers, the second one not 0")
    return _reduced(top, bottom)


def plus(one, other):
    """Return the sum of two fractions."""
    _check_fractions(one, other)
    return _sum(one, other)


def minus(one, other):
    """Return the difference of two fractions."""
    _check_fractions(one, other)
    return _sum(one, (-other[0], other[1]))


def times(one, other):
    """Return the product of two fractions."""
    _check_fractions(one, other)
    return _product(one, other)


def over(one, other):
    """Return the quotient of two fractions."""
    _check_fractions(one, other)
    if other == ZERO:
        raise InvalidFraction("a fraction cannot be divided by 0")
    return _reduced(one[0] * other[1], one[1] * other[0])


def is_less(one, other):
    """Return whether the first fraction is less than the second one."""
    _check_fractions(one, other)
    return one[0] * other[1] < other[0] * one[1]


def sum_of(fractions):
    """Return the sum of a list of fractions, which are not checked."""
    total = ZERO
    for one in fractions:
        total = _sum(total, one)
    return total


def _check_fractions(one, other):
    if not is_fraction(one) or not is_fraction(other):
        raise InvalidFraction("a fraction is a tuple of two integers in lowest terms")


def _reduced(top, bottom):
    divisor = gcd(top, bottom)
    if bottom < 0:
        divisor = -divisor
    return (top // divisor, bottom // divisor)


def _sum(one, other):
    return _reduced(one[0] * other[1] + other[0] * one[1], one[1] * other[1])


def _product(one, other):
    return _reduced(one[0] * other[0], one[1] * other[1])


def _is_pair(value):
    return isinstance(value, tuple) and len(value) == 2 and is_tick(value[0]) and is_fraction(value[1])


def _check_tick(value):
    if not is_tick(value):
        raise InvalidTick("a tick is an integer from 0")


def _check_row(value):
    if not isinstance(value, Row):
        raise InvalidRow("a row can be added to rows and multiplied by rows only")


class Row:
    """A row of fractions by ticks, which never changes."""

    def __init__(self, pairs=()):
        if not isinstance(pairs, (list, tuple)) or not all([_is_pair(pair) for pair in pairs]):
            raise InvalidRow("a row is made of a list or a tuple of tuples (tick, fraction)")
        sums = {}
        for tick, share in pairs:
            sums[tick] = _sum(sums.get(tick, ZERO), share)
        # Without zeros, and by ascending ticks, so that equal rows have equal dicts.
        self._shares = {tick: sums[tick] for tick in sorted(sums) if sums[tick] != ZERO}

    def __add__(self, other):
        _check_row(other)
        return Row(self.pairs() + other.pairs())

    def __mul__(self, other):
        _check_row(other)
        theirs = other.pairs()
        return Row([(mine + their, _product(x, y)) for mine, x in self.pairs() for their, y in theirs])

    def __eq__(self, other):
        return isinstance(other, Row) and self._shares == other._shares

    def __len__(self):
        return len(self._shares)

    def __contains__(self, x):
        return is_tick(x) and x in self._shares

    def moved(self, ticks):
        """Return the row with all ticks so much later."""
        _check_tick(ticks)
        return Row([(tick + ticks, share) for tick, share in self.pairs()])

    def cut(self, tick):
        """Return the row without the ticks above this one."""
        _check_tick(tick)
        return Row([pair for pair in self.pairs() if pair[0] <= tick])

    def at(self, tick):
        """Return the fraction at this tick."""
        _check_tick(tick)
        return self._shares.get(tick, ZERO)

    def up_to(self, tick):
        """Return the sum of the fractions up to this tick."""
        _check_tick(tick)
        return sum_of([share for when, share in self.pairs() if when <= tick])

    def total(self):
        """Return the sum of all fractions."""
        return sum_of([share for _, share in self.pairs()])

    def pairs(self):
        """Return the list of the tuples (tick, fraction) with fractions other than 0."""
        return list(self._shares.items())
