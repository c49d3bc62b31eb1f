"""Tests of prepaidplans.arrows: [36], [37], [38]."""

import copy
import itertools
import random
import unittest
from fractions import Fraction

from pool import PARTS, TASKS, cheapest, cost, facts_of, order_cost
from prepaidplans.arrows import best_with_arrows, blocks, is_best_weaving, is_best_with_arrows, woven
from prepaidplans.errors import InvalidArrows, InvalidChains, InvalidTasks, NotRisky, TooLarge, TooMany
from prepaidplans.orders import best_order
from values import (
    A, ANYTHING, B, SIZE_401, SIZE_421_AND_SPAN, SPAN_401, Twin, check_part_errors, large_tasks, tasks_example,
)


def task(name):
    return ("task", name)


IDLE, NEVER = ("order", []), ("other", [])

# Those whose risk is neither 0 nor 1.
RISKY = [part for part in PARTS if 0 < facts_of(part).chance < 1]


def fits(order, arrows):
    return all(order.index(i) < order.index(j) for i, j in arrows)


def arrows_at_random(chance, many, count):
    """Return arrows that do not lead round, as some order of the parts has them."""
    order = chance.sample(range(many), many)
    pairs = [sorted(chance.sample(range(many), 2)) for _ in range(count)]
    return [(order[i], order[j]) for i, j in pairs]


class ArrowsTest(unittest.TestCase):
    def test_example(self):
        self.assertEqual(best_with_arrows(tasks_example(), [B, A], [(0, 1)]), [0, 1])

    def test_against_all_orders(self):
        chance = random.Random(61)
        for many in [2] * 40 + [3] * 60 + [4] * 60 + [5] * 40 + [6] * 6:
            parts = chance.choices(chance.sample(PARTS, chance.choice([2, 4, 8])), k=many)
            arrows = arrows_at_random(chance, many, chance.choice([0, 1, 2, 3, 5]))
            costs = {order: order_cost(parts, order) for order in itertools.permutations(range(many)) if fits(order, arrows)}
            best = [list(order) for order in sorted(costs) if costs[order] == min(costs.values())]
            self.assertEqual(best_with_arrows(TASKS, parts, arrows), best[0], (parts, arrows))
            orders = list(itertools.permutations(range(many)))
            for order in chance.sample(orders, min(len(orders), 6)) + chance.sample(best, min(len(best), 3)):
                told = is_best_with_arrows(TASKS, parts, arrows, list(order))
                self.assertIs(told, list(order) in best, (parts, arrows, order))

    def test_without_arrows_as_the_best_order(self):
        chance = random.Random(62)
        for many in range(9):
            parts = chance.choices(PARTS, k=many)
            order = best_order(TASKS, parts)
            self.assertEqual(best_with_arrows(TASKS, parts, []), order)
            self.assertTrue(is_best_with_arrows(TASKS, parts, [], order))

    def test_by_hand(self):
        # e is cheapest for its risk, then a, then k, which is sure.
        parts = [task("k"), task("a"), task("e")]
        for arrows, order in [
            ([], [2, 1, 0]), ([(0, 2)], [1, 0, 2]), ([(0, 1)], [2, 0, 1]), ([(0, 1), (0, 2)], [0, 2, 1]),
            ([(1, 2)], [1, 2, 0]), ([(0, 1), (1, 2)], [0, 1, 2]), ([(0, 2)] * 60, [1, 0, 2]), ([(2, 0), (1, 0)] * 30, [2, 1, 0]),
        ]:
            self.assertEqual(best_with_arrows(TASKS, parts, arrows), order, arrows)
            for other in itertools.permutations(range(3)):
                self.assertIs(is_best_with_arrows(TASKS, parts, arrows, list(other)), list(other) == order)

    def test_a_cheap_part_behind_a_dear_one(self):
        # m alone is dearer for its risk than a, which costs 8 for it; with n behind it, it costs 5.
        tasks = {"a": (4, 0, TASKS["a"][2]), "m": (5, 0, TASKS["k"][2]), "n": (0, 0, TASKS["j"][2])}
        parts = [task("a"), task("m"), task("n")]
        self.assertEqual(best_with_arrows(tasks, parts, [(1, 2)]), [1, 2, 0])
        tasks["m"] = (9, 0, TASKS["k"][2])
        self.assertEqual(best_with_arrows(tasks, parts, [(1, 2)]), [0, 1, 2])

    def test_behind_one_that_is_never_done(self):
        parts = [task("k"), task("c"), task("h"), NEVER, task("a")]
        for arrows, order in [([], [3, 0, 1, 2, 4]), ([(4, 2), (2, 0)], [3, 1, 4, 2, 0]), ([(0, 3)], [0, 3, 1, 2, 4]),
                              ([(4, 3)], [4, 3, 0, 1, 2])]:
            self.assertEqual(best_with_arrows(TASKS, parts, arrows), order, arrows)
        self.assertTrue(is_best_with_arrows(TASKS, parts, [], [3, 4, 2, 1, 0]))
        self.assertFalse(is_best_with_arrows(TASKS, parts, [(2, 4)], [3, 4, 2, 1, 0]))

    def test_nine_parts(self):
        chance = random.Random(63)
        ends = [[(1, "done", (top, 997)), (2, "failed", (997 - top, 997))] for top in range(50, 950, 100)]
        tasks = {name: (10 ** 12 - index, None, end) for index, (name, end) in enumerate(zip("abcdefghi", ends))}
        parts = [("again", 6, 1, ("order", [task(name)] * 6)) for name in "abcdefghi"]
        arrows = arrows_at_random(chance, 9, 60)
        order = best_with_arrows(tasks, parts, arrows)
        self.assertTrue(fits(order, arrows))
        self.assertTrue(is_best_with_arrows(tasks, parts, arrows, order))
        self.assertEqual(best_with_arrows(tasks, parts, []), best_order(tasks, parts))
        # With arrows that leave one order only.
        line = [(index + 1, index) for index in range(8)]
        self.assertEqual(best_with_arrows(tasks, parts, line), list(range(9))[::-1])
        self.assertEqual(best_with_arrows(TASKS, [A] * 9, []), list(range(9)))

    def test_wrong_arrows(self):
        parts = [A, B, A]
        wrong = [value for value in ANYTHING if value != []] + [
            ((0, 1),), [(0, 1)] * 61, [(0, 0)], [(0, 1), (1, 0)], [(0, 1), (1, 2), (2, 0)], [(0, 3)], [(3, 0)], [(-1, 0)],
            [(0, -1)], [(True, 2)], [(0, True)], [(False, 1)], [(0, 1, 2)], [(0,)], [[0, 1]], [0, 1], [(0, 1), None],
            [("0", "1")], [(0, None)], {(0, 1)}, {0: 1}, {(0, 1): 1}, (0, 1), [()], [(0, 10 ** 59)], [(0, Twin())], [(0, (1,))],
            [(1, 2), (0, 1), (2, 1)], [(0, 1)] * 59 + [(1, 0)],
        ]
        for value in wrong:
            with self.assertRaises(InvalidArrows, msg=repr(value)):
                best_with_arrows(TASKS, parts, value)
            with self.assertRaises(InvalidArrows, msg=repr(value)):
                is_best_with_arrows(TASKS, parts, value, [0, 1, 2])
        for value in ([(0, 1)], [(0, 0)], None):
            with self.assertRaises(InvalidArrows):
                best_with_arrows(TASKS, [], value)
        self.assertEqual(best_with_arrows(TASKS, [], []), [])

    def test_any_value(self):
        wrong = ANYTHING + [
            (0, 1, 2), [0, 1], [0, 1, 2, 3], [0, 1, 1], [1, 2, 3], [-1, 0, 1], [False, True, 2], [0, True, 2], [0, 1, "2"],
            "012", [0, 1, None], {0: 0, 1: 1, 2: 2}, range(3), [Twin()] * 3, [0, 1, Twin()], [(0,), (1,), (2,)],
        ]
        for value in wrong:
            self.assertIs(is_best_with_arrows(TASKS, [IDLE] * 3, [(0, 1)], value), False, repr(value))
        self.assertIs(is_best_with_arrows(TASKS, [IDLE] * 3, [(0, 1)], [2, 0, 1]), True)

    def test_errors_in_their_order(self):
        for arrows in ([], None, [(0, 0)]):
            check_part_errors(self, lambda tasks, parts: best_with_arrows(tasks, parts, arrows))
            check_part_errors(self, lambda tasks, parts: is_best_with_arrows(tasks, parts, arrows, [0]))
        for arrows in ([], None):
            for many in (10, 12):
                with self.assertRaises(TooMany) as caught:
                    best_with_arrows(TASKS, [A] * many, arrows)
                self.assertEqual(caught.exception.limit, 9)
                with self.assertRaises(TooMany) as caught:
                    is_best_with_arrows(TASKS, [A] * many, arrows, None)
                self.assertEqual(caught.exception.limit, 9)
        with self.assertRaises(TooLarge):
            best_with_arrows(large_tasks(), [A] * 9 + [SIZE_401], None)


class BlocksTest(unittest.TestCase):
    def test_example(self):
        tasks = tasks_example()
        self.assertEqual([blocks(tasks, [B, A]), blocks(tasks, [A, B])], [[(0, 1)], [(0, 0), (1, 1)]])

    def test_against_all_beginnings(self):
        chance = random.Random(64)
        for _ in range(300):
            parts = chance.choices(chance.sample(RISKY, chance.choice([1, 2, 4])), k=chance.choice([0, 1, 2, 3, 4, 5, 8, 12]))
            self.assertEqual(blocks(TASKS, parts), self.by_hand(parts), parts)

    def by_hand(self, parts):
        found, first = [], 0
        while first < len(parts):
            indexes = []
            for end in range(first + 1, len(parts) + 1):
                going = Fraction(1)
                for part in parts[first:end]:
                    going *= facts_of(part).chance
                price = cost([(facts_of(part).price, facts_of(part).chance) for part in parts[first:end]])
                indexes.append(tuple(one / (1 - going) for one in price))
            last = max(end for end, index in enumerate(indexes) if index == min(indexes))
            found.append((first, first + last))
            first += last + 1
        return found

    def test_equal_and_single_ones(self):
        self.assertEqual(blocks(TASKS, []), [])
        for part in RISKY:
            self.assertEqual(blocks(TASKS, [part]), [(0, 0)])
            # Equal parts make one block: of the beginnings with the least index the longest one counts.
            self.assertEqual(blocks(TASKS, [part] * 12), [(0, 11)])
        self.assertEqual(blocks(TASKS, [task("a"), task("b"), task("h"), task("a")]), [(0, 1), (2, 3)])

    def test_not_risky(self):
        for odd in (task("c"), task("i"), IDLE, NEVER, task("g"), task("j"), ("easy", task("a"))):
            for index in range(4):
                parts = [task("a"), task("b"), task("d")]
                parts.insert(index, odd)
                with self.assertRaises(NotRisky) as caught:
                    blocks(TASKS, parts + [IDLE, NEVER])
                self.assertEqual(caught.exception.index, index)

    def test_errors(self):
        check_part_errors(self, blocks)
        with self.assertRaises(TooLarge):
            blocks(large_tasks(), [A, SPAN_401])


def all_weavings(lengths):
    """Return all weavings of chains with these lengths."""
    many = [chain for chain, length in enumerate(lengths) for _ in range(length)]
    found = []
    for order in sorted(set(itertools.permutations(many))):
        places = [0] * len(lengths)
        weaving = []
        for chain in order:
            weaving.append((chain, places[chain]))
            places[chain] += 1
        found.append(weaving)
    return found


def weaving_cost(chains, weaving):
    facts = [facts_of(chains[chain][index]) for chain, index in weaving]
    return cost([(one.price, one.chance) for one in facts])


class WeavingTest(unittest.TestCase):
    def test_example(self):
        self.assertEqual(woven(tasks_example(), [[B], [A]]), [(1, 0), (0, 0)])

    def test_against_all_weavings(self):
        chance = random.Random(65)
        lengths = [[0], [1], [3], [0, 0, 0, 0], [1, 1], [2, 1], [2, 2], [3, 2], [1, 1, 1], [2, 2, 2], [1, 1, 1, 1], [2, 2, 1, 1],
                   [0, 3, 0, 2], [4, 3], [3, 0]]
        for lengths in lengths * 5:
            pool = chance.sample(RISKY, chance.choice([1, 2, 5]))
            chains = [chance.choices(pool, k=length) for length in lengths]
            costs = [(weaving_cost(chains, weaving), weaving) for weaving in all_weavings(lengths)]
            least = min(one for one, _ in costs)
            told = woven(TASKS, chains)
            self.assertIn((least, told), costs, chains)
            for one, weaving in chance.sample(costs, min(len(costs), 8)) + [(least, told)]:
                self.assertIs(is_best_weaving(TASKS, chains, weaving), one == least, (chains, weaving))

    def test_largest(self):
        chance = random.Random(66)
        for lengths in ([12], [6, 6], [3, 3, 3, 3], [12, 0, 0, 0], [1, 11]):
            chains = [chance.choices(RISKY, k=length) for length in lengths]
            told = woven(TASKS, chains)
            self.assertEqual([[index for one, index in told if one == chain] for chain in range(len(chains))],
                             [list(range(length)) for length in lengths])
            self.assertTrue(is_best_weaving(TASKS, chains, told))

    def test_one_chain_has_one_weaving(self):
        chain = [task("h"), task("e"), task("a")]
        self.assertEqual(woven(TASKS, [chain]), [(0, 0), (0, 1), (0, 2)])
        self.assertTrue(is_best_weaving(TASKS, [chain], [(0, 0), (0, 1), (0, 2)]))
        self.assertFalse(is_best_weaving(TASKS, [chain], [(0, 1), (0, 0), (0, 2)]))
        self.assertEqual(woven(TASKS, [[]]), [])
        self.assertTrue(is_best_weaving(TASKS, [[], []], []))

    def test_any_value(self):
        chains = [[task("a"), task("a")], [task("b")]]
        free = [[task("f")], [task("f")]]
        self.assertIs(is_best_weaving(TASKS, free, [(0, 0)]), False)
        self.assertIs(is_best_weaving(TASKS, free, [(1, 0), (0, 0)]), True)
        right = [[(0, 0), (0, 1), (1, 0)], [(0, 0), (1, 0), (0, 1)], [(1, 0), (0, 0), (0, 1)]]
        for value in right:
            self.assertIs(is_best_weaving(TASKS, chains, value), True)
        wrong = ANYTHING + [tuple(right[0]), right[0][:2], right[0] + [(1, 1)], right[0] + [(1, 0)], [[0, 0], [0, 1], [1, 0]]]
        wrong += [[(0, 1), (0, 0), (1, 0)], [(0, 0), (0, 0), (1, 0)], [(0, 0), (0, 1), (0, 2)], [(0, 0), (0, 1), (2, 0)]]
        wrong += [[(0, 0), (0, True), (1, 0)], [(0, False), (0, 1), (1, 0)], [(0, 0), (0, 1), (True, 0)], [(0, 0), (0, 1), None]]
        wrong += [[(0, 0), (0, 1), (1, 0, 0)], [(0, 0), (0, 1), (1,)], [(0, 0), (0, 1), (-1, 0)], [(0, 0), (0, 1), (1, -1)]]
        wrong += [[(0, 0), (0, 1), ("1", 0)], [(0, 0), (0, 1), Twin()], [(0, 0), (0, 1), (Twin(), Twin())], "abc"]
        for value in wrong:
            self.assertIs(is_best_weaving(TASKS, chains, value), False, repr(value))

    def test_wrong_chains(self):
        wrong = ANYTHING + [
            ([A],), [(A, B)], [[A], (B,)], [[A], None], [A], [[A]] * 5, [[]] * 5, [[A] * 13], [[A] * 7, [B] * 6], {0: [A]},
            [[A], [("task", "x")]], [[A], [None]], [[A, ("later", True, A)]], [[[A]]], [[SIZE_401, None]], "ab", [{0: A}],
        ]
        for value in wrong:
            if value != [[]]:
                with self.assertRaises(InvalidChains, msg=repr(value)):
                    woven(TASKS, value)
                with self.assertRaises(InvalidChains, msg=repr(value)):
                    is_best_weaving(TASKS, value, [])
        self.assertEqual(woven(TASKS, [[]] * 4), [])

    def test_errors_in_their_order(self):
        for call in (woven, lambda tasks, chains: is_best_weaving(tasks, chains, None)):
            for chains in ([[A]], None, [[SIZE_401]]):
                with self.assertRaises(InvalidTasks) as caught:
                    call({"a": 1}, chains)
                self.assertEqual(caught.exception.name, "a")
            tasks = {**large_tasks(), "c": TASKS["a"]}
            for chains, number in [([[A, SIZE_401]], 401), ([[], [A], [SPAN_401]], 401), ([[SIZE_421_AND_SPAN], [SIZE_401]], 421)]:
                with self.assertRaises(TooLarge) as caught:
                    call(tasks, chains)
                self.assertEqual(caught.exception.number, number)
            risky = ("task", "c")
            for chains, index in [([[A]], 0), ([[risky, risky], [], [risky, A, NEVER]], 3), ([[risky], [risky, NEVER]], 2)]:
                with self.assertRaises(NotRisky) as caught:
                    call(tasks, chains)
                self.assertEqual(caught.exception.index, index)


class ArgumentsTest(unittest.TestCase):
    def test_by_name(self):
        parts = [task("h"), task("a")]
        self.assertEqual(best_with_arrows(arrows=[(0, 1)], parts=parts, tasks=TASKS), [0, 1])
        self.assertTrue(is_best_with_arrows(value=[0, 1], arrows=[(0, 1)], parts=parts, tasks=TASKS))
        self.assertEqual(blocks(parts=parts, tasks=TASKS), [(0, 1)])
        self.assertEqual(woven(chains=[parts], tasks=TASKS), [(0, 0), (0, 1)])
        self.assertTrue(is_best_weaving(value=[(0, 0), (0, 1)], chains=[parts], tasks=TASKS))

    def test_arguments_stay_and_results_are_new(self):
        tasks = copy.deepcopy(TASKS)
        parts = [("both", [task("h")]), task("e"), task("a")]
        arrows = [(0, 1)]
        chains = [parts, [task("d")]]
        calls = [lambda: best_with_arrows(tasks, parts, arrows), lambda: blocks(tasks, parts), lambda: woven(tasks, chains)]
        before = copy.deepcopy((tasks, parts, arrows, chains))
        for call in calls:
            told = call()
            copied = list(told)
            told.clear()
            self.assertEqual(call(), copied)
        value = best_with_arrows(tasks, parts, arrows)
        weaving = woven(tasks, chains)
        is_best_with_arrows(tasks, parts, arrows, value)
        is_best_weaving(tasks, chains, weaving)
        self.assertEqual((tasks, parts, arrows, chains), before)


if __name__ == "__main__":
    unittest.main()
