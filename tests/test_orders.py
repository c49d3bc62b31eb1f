"""Tests of prepaidplans.orders: [18], [35], and the text ahead of [35] on parts."""

import copy
import itertools
import math
import random
import unittest
from fractions import Fraction

from oracle import pair
from pool import PARTS, TASKS, cheapest, facts_of, order_cost
from prepaidplans.means import mean_lost, mean_money, rows_of
from prepaidplans.orders import best_order, count_best_orders, is_best_order, price
from values import (
    A, ANYTHING, B, SIZE_400, SPAN_400, Twin, check_first_errors, check_part_errors, large_tasks, sure, tasks_example,
)

HALF = [(1, "done", (1, 2)), (1, "failed", (1, 2))]


def task(name):
    return ("task", name)


def check_all_orders(test, parts):
    """Test what is told of parts against all of their orders."""
    best = cheapest(parts, lambda order: order_cost(parts, order))
    test.assertEqual(best_order(TASKS, parts), best[0], parts)
    test.assertEqual(count_best_orders(TASKS, parts), len(best), parts)
    return best


class PriceTest(unittest.TestCase):
    def test_example(self):
        tasks = tasks_example()
        self.assertEqual(price(tasks, A), ((0, 1), (5, 1), (1, 2)))
        self.assertEqual(price(tasks, B), ((0, 1), (13, 4), (1, 4)))

    def test_by_hand(self):
        for part, lost, money, risk in [
            (task("c"), (1, 1), (2, 1), (0, 1)), (("keep", task("c")), (0, 1), (2, 1), (0, 1)),
            (("back", 5, task("c")), (0, 1), (7, 1), (0, 1)), (task("i"), (0, 1), (5, 1), (1, 1)),
            (("order", []), (0, 1), (0, 1), (0, 1)), (("other", []), (0, 1), (0, 1), (1, 1)),
            (("order", [task("h"), task("h")]), (3, 4), (9, 1), (3, 4)), (("easy", task("a")), (0, 1), (5, 1), (0, 1)),
            # c of the side is lost at once: a side counts whole.
            (("watch", 0, ("order", [task("c"), task("j")]), task("a")), (1, 1), (7, 1), (1, 2)),
        ]:
            self.assertEqual(price(TASKS, part), (lost, money, risk), part)

    def test_each_part_against_all_runs(self):
        for part in PARTS:
            facts = facts_of(part)
            self.assertEqual(price(TASKS, part), (*[pair(one) for one in facts.price], pair(1 - facts.chance)), part)

    def test_first_errors(self):
        check_first_errors(self, price)


class BestOrderTest(unittest.TestCase):
    def test_example(self):
        tasks = tasks_example()
        parts = [task("c"), task("b"), task("a")]
        self.assertEqual([best_order(tasks, parts), count_best_orders(tasks, parts)], [[2, 1, 0], 1])
        for order in itertools.permutations(range(3)):
            self.assertIs(is_best_order(tasks, parts, list(order)), list(order) == [2, 1, 0])

    def test_none_and_one(self):
        self.assertEqual((best_order(TASKS, []), count_best_orders(TASKS, [])), ([], 1))
        self.assertIs(is_best_order(TASKS, [], []), True)
        for part in PARTS:
            self.assertEqual((best_order(TASKS, [part]), count_best_orders(TASKS, [part])), ([0], 1))
            self.assertIs(is_best_order(TASKS, [part], [0]), True)

    def test_two_and_three(self):
        for parts in itertools.product(PARTS, repeat=2):
            best = check_all_orders(self, list(parts))
            for order in ([0, 1], [1, 0]):
                self.assertIs(is_best_order(TASKS, list(parts), order), order in best, parts)
        chance = random.Random(51)
        for _ in range(400):
            check_all_orders(self, chance.choices(PARTS, k=3))

    def test_four_to_six(self):
        chance = random.Random(52)
        for many in [4] * 120 + [5] * 60 + [6] * 30:
            # Few different parts, so that many are equal.
            parts = chance.choices(chance.sample(PARTS, chance.choice([2, 3, 5, 9])), k=many)
            best = check_all_orders(self, parts)
            orders = chance.sample(list(itertools.permutations(range(many))), 6)
            for order in [list(order) for order in orders] + chance.sample(best, min(len(best), 3)):
                self.assertIs(is_best_order(TASKS, parts, order), order in best, (parts, order))

    def test_idle_ones_stand_anywhere(self):
        idle = ("order", [])
        parts = [task("b"), idle, task("e"), task("g")]
        best = check_all_orders(self, parts)
        self.assertEqual(len(best), 12)
        self.assertEqual(best[0], [1, 2, 0, 3])
        self.assertEqual(best_order(TASKS, [task("e"), idle, task("a"), idle]), [0, 1, 2, 3])
        self.assertEqual(best_order(TASKS, [task("h"), idle, task("a"), idle]), [1, 2, 0, 3])
        self.assertEqual(count_best_orders(TASKS, [idle] * 12), math.factorial(12))

    def test_sure_ones_that_are_lost_or_cost_come_last(self):
        tasks = {"a": TASKS["a"], "m": (0, None, [(1, "done", (1, 1))]), "k": TASKS["k"]}
        for last in "mk":
            parts = [task(last), task("a"), ("order", [])]
            self.assertEqual((best_order(tasks, parts), count_best_orders(tasks, parts)), ([1, 0, 2], 3))
            self.assertFalse(is_best_order(tasks, parts, [0, 1, 2]))
        self.assertEqual(count_best_orders(tasks, [task("m"), task("k"), task("a")]), 2)

    def test_behind_one_that_is_never_done_nothing_matters(self):
        # For c and k nothing is saved by being ahead of the others: they come behind "i".
        parts = [task("k"), task("c"), task("i"), task("h"), task("l")]
        best = check_all_orders(self, parts)
        self.assertEqual({order[0] for order in best}, {2})
        self.assertEqual(len(best), 24)
        # Two that are never done, and equal.
        parts = [task("k"), task("i"), task("i")]
        self.assertEqual(len(check_all_orders(self, parts)), 4)
        # With a free one that is never done, all else is for nothing.
        self.assertEqual(best_order(TASKS, [task("k"), task("i"), task("j")]), [2, 0, 1])

    def test_lost_counts_ahead_of_money(self):
        tasks = {"a": (10 ** 12, 0, HALF), "b": (0, None, HALF), "c": (0, None, [(1, "done", (1, 4)), (1, "failed", (3, 4))])}
        parts = [task(name) for name in "bca"]
        self.assertEqual(best_order(tasks, parts), [2, 1, 0])
        self.assertEqual(count_best_orders(tasks, parts), 1)
        # Equal for lost: so money decides.
        tasks["d"] = (1, None, HALF)
        self.assertEqual(best_order(tasks, [task("d"), task("b")]), [1, 0])
        self.assertEqual(count_best_orders(tasks, [task("d"), task("b")]), 1)

    def test_costs_that_differ_by_little(self):
        # Per risk a costs 10 ** 12 * 1000 / 999; b and c cost a little less and a little more.
        tasks = {"a": (10 ** 12, 0, [(1, "done", (1, 1000)), (1, "failed", (999, 1000))]),
                 "b": (998_998_998_998, 0, [(1, "done", (2, 997)), (1, "failed", (995, 997))]),
                 "c": (998_998_998_999, 0, [(1, "done", (1, 500)), (1, "failed", (499, 500))])}
        parts = [task(name) for name in "abc"]
        ratios = [Fraction(tasks[name][0]) / Fraction(*tasks[name][2][1][2]) for name in "abc"]
        self.assertEqual(len(set(ratios)), 3)
        self.assertEqual(best_order(tasks, parts), sorted(range(3), key=lambda index: ratios[index]))

    def test_twelve(self):
        equal = [task("a")] * 12
        self.assertEqual((best_order(TASKS, equal), count_best_orders(TASKS, equal)), (list(range(12)), math.factorial(12)))
        never = [task("i")] * 12
        self.assertEqual((best_order(TASKS, never), count_best_orders(TASKS, never)), (list(range(12)), math.factorial(12)))
        ends = [[(1, "done", (top, 997)), (2, "failed", (997 - top, 997))] for top in range(100, 1000, 75)]
        tasks = {name: (10 ** 12 - index, None, ends[index]) for index, name in enumerate("abcdefghijkl")}
        parts = [("again", 3, 1, ("order", [task(name)] * 4)) for name in "lkjihgfedcba"]
        order = best_order(tasks, parts)
        self.assertEqual(count_best_orders(tasks, parts), 1)
        self.assertTrue(is_best_order(tasks, parts, order))
        prices = [price(tasks, part) for part in parts]
        for one, other in itertools.pairwise(order):
            swapped = list(order)
            at = order.index(one)
            swapped[at], swapped[at + 1] = other, one
            self.assertFalse(is_best_order(tasks, parts, swapped))
            self.assertNotEqual(prices[one], prices[other])
        # Six of one kind, and six of another one, which is cheaper.
        mixed = [task("a"), task("e")] * 6
        self.assertEqual(best_order(TASKS, mixed), [1, 3, 5, 7, 9, 11, 0, 2, 4, 6, 8, 10])
        self.assertEqual(count_best_orders(TASKS, mixed), math.factorial(6) ** 2)
        # Dearer ones in any order behind one that is never done; equal ones on both sides of it; cheaper ones ahead.
        for cost, count in [(9, math.factorial(11)), (10, math.factorial(12)), (11, math.factorial(11))]:
            tasks = {"a": TASKS["a"], "n": (cost, 0, [(1, "failed", (1, 1))])}
            self.assertEqual(count_best_orders(tasks, [task("a")] * 11 + [task("n")]), count)
            parts = [task("a")] * 3 + [task("n")] * 3
            listed = [list(order) for order in itertools.permutations(range(6)) if is_best_order(tasks, parts, list(order))]
            self.assertEqual(count_best_orders(tasks, parts), len(listed))
            self.assertEqual(best_order(tasks, parts), listed[0])

    def test_large_parts(self):
        tasks = large_tasks()
        self.assertEqual(best_order(tasks, [SPAN_400, SIZE_400]), [0, 1])
        self.assertEqual(count_best_orders(tasks, [SPAN_400, SIZE_400]), 2)


class IsBestOrderTest(unittest.TestCase):
    PARTS = [task("a"), task("b"), task("g")]

    def test_any_value(self):
        self.assertTrue(is_best_order(TASKS, self.PARTS, [2, 1, 0]))
        wrong = ANYTHING + [
            (0, 1, 2), [0, 1], [0, 1, 2, 3], [0, 1, 1], [0, 0, 1, 2], [1, 2, 3], [-1, 0, 1], [False, True, 2], [0, True, 2],
            [0, 1, "2"], "012", [[0], 1, 2], [0, 1, None], {0: 0, 1: 1, 2: 2}, {0, 1, 2}, range(3), [0, 1, -1], [0, 1, 10 ** 59],
            [Twin(), Twin(), Twin()], [0, 1, Twin()], [(0,), (1,), (2,)], [0, 1, 5], b"\x00\x01\x02",
        ]
        for value in wrong:
            self.assertIs(is_best_order(TASKS, self.PARTS, value), False, repr(value))
        for value in [False], [True], (0,), [1], [0, 0]:
            self.assertIs(is_best_order(TASKS, [A], value), False, repr(value))


class AroundTest(unittest.TestCase):
    """What [18] promises: an order is best whatever stands around it."""

    AROUND = [
        lambda part: part, lambda part: ("order", [task("h"), part, task("e")]), lambda part: ("other", [task("a"), part]),
        lambda part: ("again", 2, 3, ("order", [part, task("h")])), lambda part: ("keep", part),
        lambda part: ("order", [task("c"), ("easy", part), task("a")]), lambda part: ("order", [("back", 9, part), task("i")]),
        lambda part: ("later", 4, ("other", [("order", [part, task("i")]), task("h")])),
    ]

    def test_rows_done_and_returned(self):
        chance = random.Random(53)
        for _ in range(30):
            parts = chance.choices(PARTS, k=3)
            told = {repr(rows_of(TASKS, ("order", list(order)))[::3]) for order in itertools.permutations(parts)}
            self.assertEqual(len(told), 1)

    def test_cheapest_exactly_if_best(self):
        chance = random.Random(54)
        for _ in range(40):
            parts = chance.choices(PARTS, k=chance.choice([2, 3, 3]))
            for around in self.AROUND:
                costs = {}
                for order in itertools.permutations(range(len(parts))):
                    plan = around(("order", [parts[index] for index in order]))
                    costs[order] = (Fraction(*mean_lost(TASKS, plan)), Fraction(*mean_money(TASKS, plan)))
                least = min(costs.values())
                for order, one in costs.items():
                    self.assertIs(is_best_order(TASKS, parts, list(order)), one == least, (parts, order, around(None)))


class ArgumentsTest(unittest.TestCase):
    def test_errors(self):
        for call in (best_order, count_best_orders):
            check_part_errors(self, call)
        for value in (None, [], [0]):
            check_part_errors(self, lambda tasks, parts: is_best_order(tasks, parts, value))

    def test_twelve_parts_are_right(self):
        self.assertEqual(len(best_order(TASKS, [A] * 12)), 12)

    def test_by_name(self):
        parts = [task("c"), task("a")]
        self.assertEqual(price(plan=A, tasks=TASKS), price(TASKS, A))
        self.assertEqual(best_order(parts=parts, tasks=TASKS), [1, 0])
        self.assertEqual(count_best_orders(parts=parts, tasks=TASKS), 1)
        self.assertTrue(is_best_order(value=[1, 0], parts=parts, tasks=TASKS))

    def test_arguments_stay_and_results_are_new(self):
        tasks = {"a": sure(), "b": tasks_example()["b"]}
        parts = [("order", [A, B]), B, ("watch", 1, ("both", [A]), B)]
        value = [1, 0, 2]
        before = copy.deepcopy((tasks, parts, value))
        order = best_order(tasks, parts)
        copied = list(order)
        order.clear()
        self.assertEqual(best_order(tasks, parts), copied)
        is_best_order(tasks, parts, value)
        count_best_orders(tasks, parts)
        price(tasks, parts[0])
        self.assertEqual((tasks, parts, value), before)


if __name__ == "__main__":
    unittest.main()
