"""Tests of prepaidplans.ways: [18], [39], [40]."""

import copy
import itertools
import random
import unittest
from fractions import Fraction

from oracle import pair
from pool import PARTS, TASKS, cheapest, facts_of, ways_cost
from prepaidplans.errors import InvalidShare, TooLarge, TooMany
from prepaidplans.means import mean_lost, mean_money
from prepaidplans.orders import is_best_order
from prepaidplans.rows import is_fraction
from prepaidplans.ways import best_ways, is_best_ways, ranges
from values import A, ANYTHING, SIZE_401, Twin, check_part_errors, large_tasks, sure

EXAMPLE = {"d": (1, 9, [(1, "done", (1, 2)), (1, "failed", (1, 2))]), "e": (3, 0, [(1, "done", (1, 2)), (1, "failed", (1, 2))])}
FAILS = [(0, 1), (1, 1), (1, 2), (1, 3), (999, 1000), (1, 10 ** 12)]


def task(name):
    return ("task", name)


D, E = task("d"), task("e")
IDLE, NEVER = ("order", []), ("other", [])


class BestWaysTest(unittest.TestCase):
    def test_example(self):
        self.assertEqual(best_ways(EXAMPLE, [D, E], (1, 2)), [1, 0])

    def test_by_hand(self):
        # Half of the runs of d cost 1, and 9 more if what follows fails; e costs 3: with 4 / 9 both cost the same.
        for fails, best in [((0, 1), [[0, 1]]), ((43, 97), [[0, 1]]), ((4, 9), [[0, 1], [1, 0]]), ((45, 101), [[1, 0]]),
                            ((1, 1), [[1, 0]])]:
            self.assertEqual(best_ways(EXAMPLE, [D, E], fails), best[0])
            for order in ([0, 1], [1, 0]):
                self.assertIs(is_best_ways(EXAMPLE, [D, E], fails, order), order in best, fails)

    def test_against_all_orders(self):
        chance = random.Random(71)
        for many in [0, 1] + [2] * 120 + [3] * 120 + [4] * 60 + [5] * 30:
            parts = chance.choices(chance.sample(PARTS, chance.choice([2, 4, 8])), k=many)
            fails = chance.choice(FAILS)
            best = cheapest(parts, lambda order: ways_cost(parts, order, fails))
            self.assertEqual(best_ways(TASKS, parts, fails), best[0], (parts, fails))
            orders = list(itertools.permutations(range(many)))
            for order in chance.sample(orders, min(len(orders), 5)) + chance.sample(best, min(len(best), 2)):
                self.assertIs(is_best_ways(TASKS, parts, fails, list(order)), list(order) in best, (parts, fails, order))

    def test_kinds_of_ways(self):
        # Never done: dear wherever it stands, so it comes behind a sure one; sure: nothing behind it begins.
        self.assertEqual(best_ways(TASKS, [task("i"), task("k"), task("a")], (0, 1)), [1, 0, 2])
        self.assertEqual(best_ways(TASKS, [task("k"), task("f"), task("i")], (1, 2)), [1, 0, 2])
        # Free ones that are never done stand anywhere.
        self.assertEqual(best_ways(TASKS, [task("h"), NEVER, task("a"), task("j")], (0, 1)), [1, 2, 0, 3])
        for order in itertools.permutations(range(3)):
            self.assertIs(is_best_ways(TASKS, [NEVER, task("a"), task("e")], (0, 1), list(order)),
                          order.index(2) < order.index(1))
        # What cannot be undone is dear if what follows can fail.
        parts = [task("c"), task("k")]
        self.assertEqual([best_ways(TASKS, parts, fails) for fails in ((0, 1), (1, 1000))], [[0, 1], [1, 0]])

    def test_cheapest_exactly_if_best(self):
        # In front of what follows, the other with the cheapest order makes the cheapest plan.
        chance = random.Random(72)
        for follows, fails in [(task("b"), (1, 2)), (task("c"), (0, 1)), (task("i"), (1, 1)), (task("e"), (3, 4))]:
            for _ in range(25):
                parts = chance.choices(PARTS, k=chance.choice([2, 3]))
                costs = {}
                for order in itertools.permutations(range(len(parts))):
                    plan = ("order", [("other", [parts[index] for index in order]), follows])
                    costs[order] = (Fraction(*mean_lost(TASKS, plan)), Fraction(*mean_money(TASKS, plan)))
                for order, one in costs.items():
                    self.assertIs(is_best_ways(TASKS, parts, fails, list(order)), one == min(costs.values()), (parts, order))

    def test_twelve(self):
        self.assertEqual(best_ways(TASKS, [A] * 12, (1, 2)), list(range(12)))
        ends = [[(1, "done", (top, 997)), (2, "failed", (997 - top, 997))] for top in range(50, 990, 80)]
        tasks = {name: (10 ** 12 - index, 10 ** 11, end) for index, (name, end) in enumerate(zip("abcdefghijkl", ends))}
        parts = [("again", 3, 1, ("order", [task(name)] * 6)) for name in "abcdefghijkl"]
        order = best_ways(tasks, parts, (123, 997))
        self.assertTrue(is_best_ways(tasks, parts, (123, 997), order))
        self.assertFalse(is_best_ways(tasks, parts, (123, 997), order[::-1]))
        self.assertFalse(is_best_order(tasks, parts, order))

    def test_any_value(self):
        wrong = ANYTHING + [
            (0, 1, 2), [0, 1], [0, 1, 2, 3], [0, 1, 1], [1, 2, 3], [-1, 0, 1], [False, True, 2], [0, True, 2], [0, 1, "2"],
            "012", [0, 1, None], {0: 0, 1: 1, 2: 2}, range(3), [Twin()] * 3, [0, 1, Twin()], [(0,), (1,), (2,)],
        ]
        for value in wrong:
            self.assertIs(is_best_ways(TASKS, [NEVER] * 3, (1, 2), value), False, repr(value))
        self.assertIs(is_best_ways(TASKS, [NEVER] * 3, (1, 2), [2, 0, 1]), True)
        self.assertIs(is_best_ways(TASKS, [], (1, 2), []), True)

    def test_wrong_shares(self):
        wrong = ANYTHING + [(2, 1), (-1, 2), (1001, 1000), (2, 4), (0, 2), (1, 0), (1, -1), [1, 2], (1, 2, 3), (True, 2),
                            (True, True), (1, True), (False, 1), "1/2", (1,), (Twin(), 2), 1, 0, (10 ** 59, 1), (-1, 1)]
        for value in wrong:
            with self.assertRaises(InvalidShare, msg=repr(value)):
                best_ways(TASKS, [A], value)
            with self.assertRaises(InvalidShare, msg=repr(value)):
                is_best_ways(TASKS, [], value, [])
        for value in FAILS:
            self.assertEqual(best_ways(TASKS, [A], value), [0])


class RangesTest(unittest.TestCase):
    def test_example(self):
        self.assertEqual(ranges(EXAMPLE, [D, E]), [((0, 1), (4, 9), [0, 1]), ((4, 9), (1, 1), [1, 0])])

    def test_none_and_one(self):
        self.assertEqual(ranges(TASKS, []), [((0, 1), (1, 1), [])])
        for part in PARTS:
            self.assertEqual(ranges(TASKS, [part]), [((0, 1), (1, 1), [0])])

    def test_equal_ways(self):
        for many in range(8):
            for part in (task("a"), task("h"), NEVER, task("k")):
                self.assertEqual(ranges(TASKS, [part] * many), [((0, 1), (1, 1), list(range(many)))])

    def test_an_order_that_is_best_at_an_end_only(self):
        # At 0 both cost the same, at every share above it the second one is cheaper; and the reverse at 1.
        tasks = {"a": (1, 1, EXAMPLE["d"][2]), "b": (1, 0, EXAMPLE["d"][2]), "c": (2, 0, EXAMPLE["d"][2]), "e": (1, 2, EXAMPLE["d"][2])}
        self.assertEqual(best_ways(tasks, [task("a"), task("b")], (0, 1)), [0, 1])
        self.assertEqual(ranges(tasks, [task("a"), task("b")]), [((0, 1), (1, 1), [1, 0])])
        self.assertEqual(best_ways(tasks, [task("c"), task("e")], (1, 1)), [0, 1])
        self.assertEqual(ranges(tasks, [task("c"), task("e")]), [((0, 1), (1, 1), [1, 0])])

    def test_lost_ahead_of_money(self):
        # Of b 1 / 4 stands and can be lost: by its chance, 1 if what follows fails. Of the other one, which is done in
        # half of the runs, 1 / 4 is lost in any case: by its chance, 1 / 2. Money would tell the reverse.
        tasks = {"b": (1, None, [(1, "done", (1, 4)), (1, "failed", (3, 4))]), "n": (0, 0, [(1, "failed", (1, 1))]),
                 "m": (9, 0, [(1, "done", (1, 2)), (1, "failed", (1, 2))])}
        other = ("watch", 0, ("order", [task("b"), task("n")]), task("m"))
        self.assertEqual(ranges(tasks, [other, task("b")]), [((0, 1), (1, 2), [1, 0]), ((1, 2), (1, 1), [0, 1])])

    def test_against_all_orders(self):
        chance = random.Random(73)
        for many in [2] * 150 + [3] * 80 + [4] * 30 + [5] * 8:
            parts = chance.choices(chance.sample(PARTS, chance.choice([2, 4, 8])), k=many)
            found = ranges(TASKS, parts)
            self.check_form(found)
            for low, high, order in found:
                one, other = Fraction(*low), Fraction(*high)
                step = (other - one) / 1000
                for fails in (one + step, (one + other) / 2, (2 * one + 5 * other) / 7, other - step):
                    best = cheapest(parts, lambda other: ways_cost(parts, other, pair(fails)))
                    self.assertEqual(order, best[0], (parts, fails))

    def test_turns_that_change_nothing(self):
        # Behind a sure way that is cheaper, it does not matter which of two others is: at 4 / 9 they turn.
        tasks = {**EXAMPLE, "s": (0, 0, [(1, "done", (1, 1))]), "t": (6, 0, [(1, "done", (1, 1))])}
        self.assertEqual(ranges(tasks, [task("s"), D, E]), [((0, 1), (1, 1), [0, 1, 2])])
        self.assertEqual(ranges(tasks, [E, task("s"), D]), [((0, 1), (1, 1), [1, 0, 2])])
        # d costs as much as t for its chance at 4 / 9 too, e at all shares: only behind d that matters nothing.
        self.assertEqual(ranges(tasks, [task("t"), D, E]), [((0, 1), (4, 9), [1, 0, 2]), ((4, 9), (1, 1), [0, 1, 2])])
        tasks["x"] = (4, 0, EXAMPLE["d"][2])
        self.assertEqual(ranges(tasks, [task("t"), D, task("x")]),
                         [((0, 1), (4, 9), [1, 0, 2]), ((4, 9), (1, 1), [0, 1, 2])])
        # u is cheaper than d from 1 / 3 on, t than d from 4 / 9 on, and than u from 2 / 3 on.
        tasks["u"] = (2, 3, EXAMPLE["d"][2])
        found = ranges(tasks, [D, E, task("u"), task("t")])
        self.check_form(found)
        self.assertEqual([order for _, _, order in found], [[0, 2, 1, 3], [2, 0, 1, 3], [2, 1, 3, 0], [1, 3, 0, 2]])

    def test_every_turn_of_two_is_found(self):
        for parts in itertools.combinations(PARTS, 2):
            one, other = [facts_of(part) for part in parts]
            found = ranges(TASKS, list(parts))
            self.check_form(found)
            self.assertLessEqual(len(found), 2)
            for low, high, order in found[:-1]:
                # What both cost for their chance is equal there: of lost, or of money where lost is always equal.
                fails = Fraction(*high)
                sums = [tuple((mean + fails * stands) * facts.chance for mean, stands in zip(there.mean, there.stands))
                        for there, facts in ((one, other), (other, one))]
                self.assertTrue(sums[0][0] == sums[1][0] or sums[0][1] == sums[1][1])

    def check_form(self, found):
        self.assertEqual((found[0][0], found[-1][1]), ((0, 1), (1, 1)))
        for low, high, _ in found:
            self.assertTrue(is_fraction(low) and is_fraction(high))
            self.assertLess(Fraction(*low), Fraction(*high))
        for one, other in itertools.pairwise(found):
            self.assertEqual(one[1], other[0])
            self.assertNotEqual(one[2], other[2])

    def test_seven(self):
        ends = [(1, "done", (2, 997)), (2, "failed", (995, 997))]
        tasks = {name: (2 * 10 ** 8 * (9 - index), 9 * 10 ** 9 * (12 * index + index ** 2), ends) for index, name in enumerate("abcdefg")}
        parts = [("again", 20, 1, ("again", 4, 0, task(name))) for name in "abcdefg"]
        found = ranges(tasks, parts)
        self.check_form(found)
        self.assertGreater(len(found), 5)
        for low, high, order in found:
            middle = pair((Fraction(*low) + Fraction(*high)) / 2)
            self.assertTrue(is_best_ways(tasks, parts, middle, order))
            self.assertEqual(best_ways(tasks, parts, middle), order)

    def test_too_many(self):
        for many in (8, 12):
            with self.assertRaises(TooMany) as caught:
                ranges(TASKS, [A] * many)
            self.assertEqual(caught.exception.limit, 7)
        with self.assertRaises(TooLarge):
            ranges(large_tasks(), [A] * 8 + [SIZE_401])


class ArgumentsTest(unittest.TestCase):
    def test_errors(self):
        check_part_errors(self, ranges)
        for fails in ((1, 2), None):
            check_part_errors(self, lambda tasks, parts: best_ways(tasks, parts, fails))
            check_part_errors(self, lambda tasks, parts: is_best_ways(tasks, parts, fails, []))

    def test_by_name(self):
        self.assertEqual(best_ways(fails=(1, 2), parts=[D, E], tasks=EXAMPLE), [1, 0])
        self.assertTrue(is_best_ways(value=[1, 0], fails=(1, 2), parts=[D, E], tasks=EXAMPLE))
        self.assertEqual(len(ranges(parts=[D, E], tasks=EXAMPLE)), 2)

    def test_arguments_stay_and_results_are_new(self):
        tasks = {**EXAMPLE, "a": sure()}
        parts = [("order", [D, A]), E, ("watch", 1, ("both", [A]), D)]
        value = [1, 0, 2]
        before = copy.deepcopy((tasks, parts, value))
        order = best_ways(tasks, parts, (1, 2))
        copied = list(order)
        order.clear()
        self.assertEqual(best_ways(tasks, parts, (1, 2)), copied)
        found = ranges(tasks, parts)
        copied = copy.deepcopy(found)
        for _, _, order in found:
            order.clear()
        found.clear()
        self.assertEqual(ranges(tasks, parts), copied)
        is_best_ways(tasks, parts, (1, 2), value)
        self.assertEqual((tasks, parts, value), before)


if __name__ == "__main__":
    unittest.main()
