"""Tests of prepaidplans.rows: [5], [20], [21]."""

import random
import unittest
from fractions import Fraction

from prepaidplans.errors import InvalidFraction, InvalidRow, InvalidTick
from prepaidplans.rows import Row, fraction, is_fraction, is_less, minus, over, plus, times
from values import ANYTHING, Twin

BIG = 10 ** 60 - 1  # 60 digits
PRIME = 10 ** 59 + 19  # shares no divisor with BIG

FRACTIONS = [
    (0, 1), (1, 1), (-1, 1), (1, 2), (-1, 2), (2, 3), (-5, 3), (7, 1), (1, 1000), (-999, 1000), (3, 4), (5, 6),
    (BIG, 1), (-BIG, 1), (1, BIG), (-1, BIG), (BIG, PRIME), (-PRIME, BIG), (BIG - 1, BIG),
]

NEARLY = [
    (0, 2), (2, 2), (2, 4), (-2, 4), (6, 3), (0, 0), (1, 0), (0, -1), (1, -1), (1, -2), (-1, -2), (BIG, BIG), (0, BIG),
    (True, 2), (1, True), (False, 1), (True, True), [1, 2], [0, 1], (1,), (1, 2, 3), (1, 1, 1), ((1, 2),), (1, None),
    (None, 1), ("1", "2"), ("1", 2), (1, "2"), "12", "1/2", {1: 2}, {1, 2}, 1, 0, ((1, 2), (1, 2)), (1, (1, 2)),
    (Twin(), 1), (1, Twin()), range(1, 3), b"12",
]


def as_tuple(number):
    return (number.numerator, number.denominator)


class FractionTest(unittest.TestCase):
    def test_is_fraction(self):
        for value in FRACTIONS:
            self.assertIs(is_fraction(value), True, value)
        for value in [*NEARLY, *ANYTHING]:
            self.assertIs(is_fraction(value), False, value)

    def test_is_fraction_is_by_value(self):
        for top in range(-6, 7):
            for bottom in range(-6, 7):
                right = bottom > 0 and as_tuple(Fraction(top, bottom)) == (top, bottom)
                self.assertIs(is_fraction((top, bottom)), right, (top, bottom))

    def test_fraction(self):
        for top in [*range(-12, 13), BIG, -BIG, PRIME]:
            for bottom in [*range(-12, 0), *range(1, 13), BIG, -BIG, PRIME]:
                self.assertEqual(fraction(top, bottom), as_tuple(Fraction(top, bottom)))
        self.assertEqual(fraction(0, -7), (0, 1))
        self.assertEqual(fraction(0, 7), (0, 1))
        self.assertEqual(fraction(6, -4), (-3, 2))
        self.assertIs(type(fraction(3, 6)), tuple)

    def test_fraction_without_a_bottom(self):
        for top in (0, 1, -1, 5, BIG, -BIG):
            self.assertEqual(fraction(top), (top, 1))
            self.assertEqual(fraction(top=top), (top, 1))
        self.assertEqual(fraction(bottom=4, top=2), (1, 2))

    def test_fraction_errors(self):
        for top in (0, 1, -3, BIG):
            with self.assertRaises(InvalidFraction):
                fraction(top, 0)
        for value in [True, False, None, "1", (1, 2), [1], (), {}, Twin(), b"1", object()]:
            for call in (lambda: fraction(value), lambda: fraction(value, 2), lambda: fraction(2, value),
                         lambda: fraction(value, value), lambda: fraction(value, 0)):
                with self.assertRaises(InvalidFraction, msg=repr(value)):
                    call()

    def test_sums_differences_products_quotients_order(self):
        for one in FRACTIONS:
            for other in FRACTIONS:
                x, y = Fraction(*one), Fraction(*other)
                self.assertEqual(plus(one, other), as_tuple(x + y))
                self.assertEqual(minus(one, other), as_tuple(x - y))
                self.assertEqual(times(one, other), as_tuple(x * y))
                self.assertIs(is_less(one, other), x < y)
                if y:
                    self.assertEqual(over(one, other), as_tuple(x / y))

    def test_results_are_fractions(self):
        for one in FRACTIONS:
            for other in FRACTIONS:
                results = [plus(one, other), minus(one, other), times(one, other)]
                results.extend([over(one, other)] if other[0] else [])
                self.assertEqual([True] * len(results), [is_fraction(result) for result in results])

    def test_by_name(self):
        self.assertEqual(plus(other=(1, 6), one=(1, 3)), (1, 2))
        self.assertEqual(minus(other=(1, 6), one=(1, 3)), (1, 6))
        self.assertEqual(times(other=(1, 6), one=(1, 3)), (1, 18))
        self.assertEqual(over(other=(1, 6), one=(1, 3)), (2, 1))
        self.assertIs(is_less(other=(1, 6), one=(1, 3)), False)
        self.assertIs(is_fraction(value=(1, 3)), True)

    def test_over_by_zero(self):
        for one in FRACTIONS:
            with self.assertRaises(InvalidFraction):
                over(one, (0, 1))

    def test_errors_in_either_place(self):
        for call in (plus, minus, times, over, is_less):
            for value in [*NEARLY, *ANYTHING]:
                for one, other in ((value, (1, 2)), ((1, 2), value), (value, value), (value, (0, 1))):
                    with self.assertRaises(InvalidFraction, msg=(call.__name__, repr(value))):
                        call(one, other)


def model_of(pairs):
    """Return the row as a dict of Fractions without zeros."""
    sums = {}
    for tick, (top, bottom) in pairs:
        sums[tick] = sums.get(tick, 0) + Fraction(top, bottom)
    return {tick: share for tick, share in sums.items() if share}


def told(model):
    return [(tick, as_tuple(model[tick])) for tick in sorted(model)]


def some_pairs(chance):
    ticks = [0, 1, 2, 3, 4, 7, BIG, BIG - 1]
    return [(chance.choice(ticks), as_tuple(Fraction(chance.randint(-3, 3), chance.randint(1, 4))))
            for _ in range(chance.randint(0, 8))]


ROWS = [[], [(0, (1, 1))], [(0, (0, 1))], [(1, (1, 2)), (3, (1, 4))], [(3, (1, 4)), (1, (1, 2))],
        [(2, (1, 3)), (2, (1, 6)), (0, (-1, 1))], [(5, (1, 2)), (5, (-1, 2))],
        [(5, (1, 2)), (4, (1, 7)), (5, (-1, 3)), (5, (-1, 6))], [(BIG, (BIG, PRIME)), (0, (-1, BIG))]]


class RowTest(unittest.TestCase):
    def samples(self):
        chance = random.Random(21)
        return ROWS + [some_pairs(chance) for _ in range(60)]

    def test_example(self):
        row = Row([(1, (1, 2)), (3, (1, 4))])
        self.assertEqual(
            [(row * row).pairs(), (row + row).cut(2).pairs(), row.up_to(2), plus((1, 6), (1, 3)),
             over((1, 2), (-3, 4))],
            [[(2, (1, 4)), (4, (1, 4)), (6, (1, 16))], [(1, (1, 1))], (1, 2), (1, 2), (-2, 3)])

    def test_pairs_ascend_and_add_up(self):
        for pairs in self.samples():
            for given in (pairs, tuple(pairs), pairs[::-1]):
                row = Row(given)
                self.assertEqual(row.pairs(), told(model_of(pairs)))
                self.assertIs(type(row.pairs()), list)
                self.assertEqual(len(row), len(row.pairs()))
                self.assertEqual(row, Row(row.pairs()))

    def test_no_pairs(self):
        for row in (Row(), Row([]), Row(()), Row(pairs=[]), Row([(3, (0, 1))]), Row([(3, (1, 2)), (3, (-1, 2))])):
            self.assertEqual(row.pairs(), [])
            self.assertEqual((len(row), row.total(), row.at(3), row.up_to(9)), (0, (0, 1), (0, 1), (0, 1)))
            self.assertEqual(row, Row())
            self.assertIs(3 in row, False)

    def test_methods_at_beside_and_behind_the_ticks(self):
        for pairs in self.samples():
            row, model = Row(pairs), model_of(pairs)
            self.assertEqual(row.total(), as_tuple(sum(model.values(), Fraction(0))))
            for tick in [0, 1, 2, 3, 4, 5, 6, 7, 8, BIG - 2, BIG - 1, BIG]:
                ahead = {one: share for one, share in model.items() if one <= tick}
                self.assertEqual(row.at(tick), as_tuple(model.get(tick, Fraction(0))))
                self.assertEqual(row.up_to(tick), as_tuple(sum(ahead.values(), Fraction(0))))
                self.assertEqual(row.cut(tick).pairs(), told(ahead))
                self.assertIs(tick in row, tick in model)
                late = {one + tick: share for one, share in model.items()}
                self.assertEqual(row.moved(tick).pairs(), told(late))

    def test_sums_and_products(self):
        chance = random.Random(22)
        samples = self.samples()
        for _ in range(300):
            one, other = chance.choice(samples), chance.choice(samples)
            self.assertEqual((Row(one) + Row(other)).pairs(), told(model_of(one + other)))
            model = {}
            for tick, share in model_of(one).items():
                for tick2, share2 in model_of(other).items():
                    model[tick + tick2] = model.get(tick + tick2, 0) + share * share2
            expected = told({tick: share for tick, share in model.items() if share})
            self.assertEqual((Row(one) * Row(other)).pairs(), expected)

    def test_products_that_add_up_to_nothing(self):
        one, other = Row([(0, (1, 1)), (1, (1, 1))]), Row([(0, (1, 1)), (1, (-1, 1))])
        self.assertEqual((one * other).pairs(), [(0, (1, 1)), (2, (-1, 1))])
        self.assertEqual((one * Row()).pairs(), [])
        self.assertEqual((one + Row([(0, (-1, 1)), (1, (-1, 1))])).pairs(), [])
        self.assertEqual(one * Row([(0, (1, 1))]), one)
        self.assertEqual(one + Row(), one)

    def test_results_are_rows(self):
        row = Row([(1, (1, 2))])
        for result in (row + row, row * row, row.moved(0), row.cut(9)):
            self.assertIs(type(result), Row)

    def test_long_rows(self):
        row = Row([(tick, (1, 401)) for tick in range(401)])
        square = row * row
        self.assertEqual((len(square), square.total(), square.at(400)), (801, (1, 1), (1, 401)))
        self.assertEqual(square.at(801), (0, 1))

    def test_a_row_never_changes(self):
        pairs = [(3, (1, 4)), (1, (1, 2))]
        row, same = Row(pairs), [(1, (1, 2)), (3, (1, 4))]
        pairs.append((4, (1, 1)))
        pairs[0] = (3, (1, 1))
        self.assertEqual(row.pairs(), same)
        row.pairs().append(5)
        row.pairs().clear()
        first = row
        first += Row([(9, (1, 1))])
        first *= Row([(9, (1, 1))])
        self.assertIsNot(first, row)
        results = [row + row, row * row, row.moved(3), row.cut(1), row.at(1), row.up_to(1), row.total(), len(row),
                   1 in row, row == row]
        self.assertEqual(len(results), 10)
        self.assertEqual(row.pairs(), same)
        self.assertIsNot(row.pairs(), row.pairs())

    def test_arguments_are_unchanged(self):
        pairs = [(3, (1, 4)), (1, (1, 2)), (3, (0, 1))]
        Row(pairs)
        self.assertEqual(pairs, [(3, (1, 4)), (1, (1, 2)), (3, (0, 1))])
        one, other = Row(pairs), Row([(0, (1, 3))])
        self.assertEqual(len([one + other, one * other]), 2)
        self.assertEqual(other.pairs(), [(0, (1, 3))])

    def test_by_name(self):
        row = Row(pairs=((1, (1, 2)), (3, (1, 4))))
        self.assertEqual(row.moved(ticks=2).pairs(), [(3, (1, 2)), (5, (1, 4))])
        self.assertEqual(row.cut(tick=1).pairs(), [(1, (1, 2))])
        self.assertEqual((row.at(tick=3), row.up_to(tick=3)), ((1, 4), (3, 4)))

    def test_errors_of_pairs(self):
        whole = [None, 0, 1, True, "", "ab", {}, {0: (1, 2)}, {(0, (1, 2))}, range(0), range(2), Row(), Twin(), b"",
                 iter([]), object(), Row]
        items = [None, 0, "ab", (), (0,), ((1, 2),), [0, (1, 2)], (0, (1, 2), 0), (-1, (1, 2)), (True, (1, 2)),
                 (False, (1, 2)), ("0", (1, 2)), (None, (1, 2)), ((0, 1), (1, 2)), (0, 1), (0, (2, 4)), (0, [1, 2]),
                 (0, (True, 2)), (0, (1, True)), (0, (1, 0)), (0, None), (Twin(), (1, 2)), (0, Twin()), {0: (1, 2)},
                 (0, 1, 2), (-BIG, (1, 2)), (0, (0, 2)), (0, (1, -2))]
        good = (1, (1, 2))
        for value in whole:
            with self.assertRaises(InvalidRow, msg=repr(value)):
                Row(value)
        for item in items:
            for value in ([item], (item,), [good, item], [item, good], (good, item, good)):
                with self.assertRaises(InvalidRow, msg=repr(item)):
                    Row(value)

    def test_errors_of_ticks(self):
        row = Row([(0, (1, 2)), (1, (1, 2))])
        for value in [-1, -BIG, True, False, None, "1", (1,), [0], (), {}, (0, 1), Twin(), row, b"1", object()]:
            for call in (row.moved, row.cut, row.at, row.up_to, Row().moved, Row().cut, Row().at, Row().up_to):
                with self.assertRaises(InvalidTick, msg=repr(value)):
                    call(value)
        self.assertEqual(row.pairs(), [(0, (1, 2)), (1, (1, 2))])

    def test_plus_and_times_with_any_value_behind(self):
        row = Row([(0, (1, 2)), (1, (1, 2))])
        for value in [*ANYTHING, (1, 2), [(0, (1, 2)), (1, (1, 2))], row.pairs(), Row]:
            with self.assertRaises(InvalidRow, msg=repr(value)):
                row + value
            with self.assertRaises(InvalidRow, msg=repr(value)):
                row * value
            with self.assertRaises(InvalidRow, msg=repr(value)):
                Row() * value

    def test_equal_to_rows_with_equal_pairs_only(self):
        samples = self.samples()
        for one in samples:
            for other in samples[:30]:
                alike = model_of(one) == model_of(other)
                self.assertIs(Row(one) == Row(other), alike)
                self.assertIs(Row(one) != Row(other), not alike)
        for row in (Row(), Row([(0, (1, 2))])):
            for value in [*ANYTHING, row.pairs(), tuple(row.pairs()), dict(row.pairs()), len(row), Row]:
                self.assertIs(row == value, False, value)
                self.assertIs(row != value, True, value)

    def test_in_with_any_value(self):
        row = Row([(0, (1, 2)), (1, (1, 2)), (BIG, (1, 1)), (5, (1, 1)), (5, (-1, 1))])
        for tick in (0, 1, BIG):
            self.assertIs(tick in row, True)
        others = [value for value in ANYTHING if type(value) is not int]
        for value in [-1, 2, 5, BIG - 1, True, False, (1, 2), (0, (1, 2)), row, "0", *others]:
            self.assertIs(value in row, False, value)


if __name__ == "__main__":
    unittest.main()
