"""Tests of prepaidplans.choices: [43], [44]."""

import copy
import random
import unittest
from fractions import Fraction

from oracle import Means, pair, paths_of
from prepaidplans.choices import best_delay, best_limit, by_limit, line_of, worth
from prepaidplans.errors import InvalidKind, InvalidName, InvalidNumber, InvalidPlan, TooLarge
from prepaidplans.means import chance, mean_begins, mean_end, mean_money, mean_undos
from prepaidplans.plans import is_plan, span
from prepaidplans.tasks import with_task
from samples import many_fates, samples
from values import (
    A, ANYTHING, B, C, SIZE_400, SIZE_401, SPAN_400, SPAN_401, Twin, check_first_errors, large_tasks, sure, tasks_example,
)

TASKS = {**tasks_example(), "n": (5, 7, [(2, "failed", (1, 1))]), "f": (0, 0, [(1, "done", (1, 1))])}
N, F = ("task", "n"), ("task", "f")
PLAN = ("order", [A, B])
NOTHING, FAIL = ("order", []), ("other", [])


def worth_of(tasks, plan, reward, rate):
    """Return the worth as the means tell it."""
    done, money, end = [Fraction(*call(tasks, plan)) for call in (chance, mean_money, mean_end)]
    return reward * done - money - rate * end


def best_of(worths):
    """Return (index, worth) of the first one of the greatest."""
    return (worths.index(max(worths)), pair(max(worths)))


def pairs_of_plans(seed, many):
    """Return a list of (tasks, plan, other)."""
    found = []
    for (tasks, plan), (more, other) in zip(samples(seed, many, 200), samples(seed + 1, many, 200)):
        found.append(({**tasks, **{name + "x": more[name] for name in more}}, plan, renamed(other)))
    return found


def renamed(plan):
    if plan[0] == "task":
        return ("task", plan[1] + "x")
    return tuple(renamed(one) if isinstance(one, tuple) else [renamed(part) for part in one] if isinstance(one, list) else one
                 for one in plan)


class WorthTest(unittest.TestCase):
    def test_example(self):
        self.assertEqual(worth(TASKS, PLAN, 20, 1), (1, 2))

    def test_by_hand(self):
        for plan, reward, rate, told in [
            (C, 10, 1, (7, 1)), (N, 10, 1, (-7, 1)), (NOTHING, 10, 5, (10, 1)), (FAIL, 10, 5, (0, 1)), (A, 0, 0, (-4, 1)),
            (A, 8, 0, (0, 1)), (A, 0, 2, (-7, 1)), (F, 10 ** 12, 10 ** 12, (0, 1)), (B, 4, 4, (-4, 1)),
        ]:
            self.assertEqual(worth(TASKS, plan, reward, rate), told, plan)

    def test_against_all_runs(self):
        for tasks, plan in samples(111, 80, 300):
            means = Means(tasks, plan)
            for reward, rate in [(0, 0), (10, 1), (7, 3), (10 ** 12, 10 ** 12)]:
                told = reward * means.chance - means.money - rate * means.mean_end
                self.assertEqual(worth(tasks, plan, reward, rate), pair(told), (tasks, plan))


class ByLimitTest(unittest.TestCase):
    def test_example(self):
        self.assertEqual(by_limit(TASKS, PLAN), [(0, (0, 1), (4, 1)), (2, (0, 1), (11, 2)), (3, (3, 8), (19, 4))])

    def test_by_hand(self):
        for plan, told in [
            (NOTHING, [(0, (1, 1), (0, 1))]), (FAIL, [(0, (0, 1), (0, 1))]), (F, [(0, (0, 1), (0, 1)), (1, (1, 1), (0, 1))]),
            (N, [(0, (0, 1), (5, 1))]), (C, [(0, (0, 1), (2, 1)), (1, (1, 1), (2, 1))]),
            (("later", 3, N), [(0, (0, 1), (0, 1)), (3, (0, 1), (5, 1))]),
            # A change of the money back to what it was counts too; the money of a side comes at its begin.
            (("order", [C, F, N]), [(0, (0, 1), (2, 1)), (2, (0, 1), (7, 1))]),
            (("watch", 1, N, ("later", 2, NOTHING)), [(0, (0, 1), (0, 1)), (1, (0, 1), (5, 1)), (2, (1, 1), (5, 1))]),
        ]:
            self.assertEqual(by_limit(TASKS, plan), told, plan)
        tasks = {"a": sure(cost=1, undo=3), "b": sure(cost=2, undo=0), "n": TASKS["n"]}
        # Within 1 a stands and is undone, behind 2 it is kept.
        self.assertEqual(by_limit(tasks, ("keep", ("order", [A, B]))),
                         [(0, (0, 1), (1, 1)), (1, (0, 1), (6, 1)), (2, (1, 1), (3, 1))])

    def test_as_the_plans_within(self):
        for tasks, plan in samples(112, 60, 10 ** 4):
            told, last = [], None
            for tick in range(span(tasks, plan) + 1):
                within = ("within", tick, plan)
                if tick > 200 or not is_plan(tasks, within):
                    break
                now = (chance(tasks, within), mean_money(tasks, within))
                if now != last:
                    told.append((tick, *now))
                last = now
            else:
                self.assertEqual(by_limit(tasks, plan), told, (tasks, plan))

    def test_limits_above_200(self):
        told = by_limit(large_tasks(), SPAN_400)
        self.assertEqual(told[:2], [(0, (0, 1), (0, 1)), (10, (0, 1), (1, 1))])
        self.assertEqual(told[-2:], [(370, (0, 1), (25, 1)), (400, (1, 1), (13, 1))])


class BestLimitTest(unittest.TestCase):
    def test_example(self):
        self.assertEqual(best_limit(TASKS, B, C, 10, 1), (1, (29, 4)))

    def test_by_hand(self):
        for plan, other, reward, rate, told in [
            # The least one of several: never to wait, when nothing changes.
            (NOTHING, N, 5, 1, (0, (5, 1))), (FAIL, C, 10, 0, (0, (8, 1))), (N, C, 10, 1, (0, (2, 1))), (N, C, 10, 0, (0, (3, 1))),
            # b is done at 1, or fails at 3: to wait until 3 is worth nothing.
            (B, C, 10, 1, (1, (29, 4))), (B, FAIL, 10, 0, (1, (13, 2))), (B, FAIL, 10, 4, (1, (5, 2))), (A, FAIL, 100, 0, (2, (46, 1))),
            (A, FAIL, 4, 0, (2, (-2, 1))), (A, FAIL, 0, 0, (0, (-4, 1))), (A, F, 0, 10 ** 12, (0, (-4 - 10 ** 12, 1))),
            (("later", 5, C), N, 10, 1, (6, (2, 1))), (("later", 5, C), C, 10, 1, (0, (7, 1))),
        ]:
            self.assertEqual(best_limit(TASKS, plan, other, reward, rate), told, (plan, other))

    def test_against_the_plans_with_each_limit(self):
        for tasks, plan, other in pairs_of_plans(113, 40):
            for reward, rate in [(0, 0), (10, 0), (10, 1), (3, 5), (10 ** 12, 10 ** 12), (0, 1)]:
                plans = [("other", [("within", tick, plan), other]) for tick in range(span(tasks, plan) + 1)]
                if all(is_plan(tasks, one) for one in plans):
                    worths = [worth_of(tasks, one, reward, rate) for one in plans]
                    self.assertEqual(best_limit(tasks, plan, other, reward, rate), best_of(worths), (tasks, plan, other))

    def test_against_all_runs(self):
        for tasks, plan, other in pairs_of_plans(115, 30):
            if many_fates(tasks, ("order", [plan, other])) <= 200 and span(tasks, plan) <= 12:
                means = [Means(tasks, ("other", [("within", tick, plan), other])) for tick in range(span(tasks, plan) + 1)]
                worths = [10 * one.chance - one.money - 2 * one.mean_end for one in means]
                self.assertEqual(best_limit(tasks, plan, other, 10, 2), best_of(worths))

    def test_larger_than_plans(self):
        tasks = large_tasks()
        # Only together they are too many, too deep, too large or too late.
        self.assertEqual(best_limit(tasks, SPAN_400, SPAN_400, 0, 10 ** 12), (0, (-13 - 400 * 10 ** 12, 1)))
        self.assertEqual(best_limit(tasks, SPAN_400, FAIL, 10 ** 12, 0), (400, (10 ** 12 - 13, 1)))
        self.assertEqual(best_limit(tasks, SIZE_400, SIZE_400, 100, 1), (20, (60, 1)))
        deep = A
        for _ in range(7):
            deep = ("keep", deep)
        self.assertEqual(best_limit(tasks, deep, deep, 10, 1), (1, (8, 1)))
        self.assertEqual(best_limit(tasks, ("order", [A] * 39), ("order", [A] * 39), 10, 0), (39, (-29, 1)))
        self.assertEqual(best_delay(tasks, ("order", [A] * 39), ("order", [A] * 39), 100, 10, 0), (40, (-29, 1)))
        self.assertEqual(best_delay(tasks, SPAN_400, SPAN_400, 100, 10, 0), (91, (10 - 13 - 10 - 9, 1)))


class BestDelayTest(unittest.TestCase):
    def test_by_hand(self):
        for plan, other, most, reward, rate, told in [
            (NOTHING, N, 100, 5, 1, (1, (5, 1))), (FAIL, C, 100, 10, 1, (0, (7, 1))), (FAIL, C, 0, 10, 1, (0, (7, 1))),
            (N, C, 9, 10, 0, (0, (3, 1))), (C, C, 9, 10, 1, (2, (7, 1))), (C, C, 1, 10, 1, (0, (5, 1))), (C, C, 2, 10, 1, (2, (7, 1))),
            # a fails at 1 in half of the runs; b is worth to be begun behind that, when it is known that a is not done.
            (A, B, 0, 10, 0, (0, (15, 4))), (A, B, 5, 10, 0, (3, (17, 4))),
        ]:
            self.assertEqual(best_delay(TASKS, plan, other, most, reward, rate), told, (plan, other, most))

    def test_against_the_plans_with_each_delay(self):
        chance = random.Random(117)
        for tasks, plan, other in pairs_of_plans(118, 60):
            most = chance.choice([0, 1, 4, 9])
            plans = [("race", [plan, ("later", ticks, other)]) for ticks in range(most + 1)]
            for reward, rate in [(0, 0), (10, 0), (10, 1), (3, 5), (10 ** 12, 10 ** 12), (0, 1)]:
                if all(is_plan(tasks, one) for one in plans):
                    worths = [worth_of(tasks, one, reward, rate) for one in plans]
                    told = best_delay(tasks, plan, other, most, reward, rate)
                    self.assertEqual(told, best_of(worths), (tasks, plan, other, most, reward, rate))

    def test_each_word(self):
        inner = [A, ("race", [A, B]), ("both", [A, C]), ("again", 2, 1, A), ("watch", 1, C, B), ("within", 1, A), ("keep", C), FAIL,
                 ("back", 3, A), ("easy", A), NOTHING, N]
        for plan in inner:
            for other in inner:
                worths = [worth_of(TASKS, ("race", [plan, ("later", ticks, other)]), 9, 1) for ticks in range(7)]
                self.assertEqual(best_delay(TASKS, plan, other, 6, 9, 1), best_of(worths), (plan, other))
                worths = [worth_of(TASKS, ("other", [("within", tick, plan), other]), 9, 1)
                          for tick in range(span(TASKS, plan) + 1)]
                self.assertEqual(best_limit(TASKS, plan, other, 9, 1), best_of(worths), (plan, other))

    def test_most_of_100(self):
        # The plan is done at 99: only with the greatest delay n does not begin, which costs 5.
        plan = ("later", 98, ("task", "s"))
        tasks = {**TASKS, "s": sure(cost=2)}
        for most, told in [(100, (100, (8, 1))), (99, (0, (3, 1))), (98, (0, (3, 1)))]:
            self.assertEqual(best_delay(tasks, plan, N, most, 10, 0), told)

    def test_large_plans(self):
        ends = [(1, "done", (577, 1000)), (1, "failed", (423, 1000))]
        tasks = {"a": (10 ** 12, 10 ** 12 - 1, ends), "b": (10 ** 12 - 2, None, ends)}
        plan = ("order", [("again", 19, 0, A)] * 19)
        other = ("again", 19, 0, ("order", [B] * 20))
        ticks, best = best_delay(tasks, plan, other, 100, 10 ** 12, 10 ** 12)
        self.assertLess(Fraction(*best_delay(tasks, plan, other, ticks - 1, 10 ** 12, 10 ** 12)[1]), Fraction(*best))
        # To stop the plan is dearer, however late: then all that is done is undone, and the other one is tried too.
        self.assertEqual(best_limit(tasks, plan, other, 0, 0)[0], 361)
        self.assertEqual(len(by_limit(tasks, plan)), 362)


class NumbersTest(unittest.TestCase):
    WRONG = [-1, 10 ** 12 + 1, 10 ** 59, None, True, False, "1", (1, 1), [1], 1j, Twin(), b"1"]

    def test_reward_and_rate(self):
        for number in self.WRONG:
            for reward, rate in [(number, 1), (1, number), (number, number)]:
                with self.assertRaises(InvalidNumber, msg=repr(number)):
                    worth(TASKS, A, reward, rate)
                with self.assertRaises(InvalidNumber, msg=repr(number)):
                    best_limit(TASKS, A, B, reward, rate)
                with self.assertRaises(InvalidNumber, msg=repr(number)):
                    best_delay(TASKS, A, B, 1, reward, rate)
        for number in ANYTHING:
            if number is not True and number is not False and number not in (0, 1):
                with self.assertRaises(InvalidNumber, msg=repr(number)):
                    worth(TASKS, A, number, 0)
        self.assertEqual(worth(TASKS, NOTHING, 10 ** 12, 10 ** 12), (10 ** 12, 1))

    def test_most(self):
        for number in self.WRONG + [101]:
            for reward, rate in [(0, 0), (None, 0)]:
                with self.assertRaises(InvalidNumber, msg=repr(number)):
                    best_delay(TASKS, A, B, number, reward, rate)
        for most in (0, 100):
            self.assertEqual(best_delay(TASKS, FAIL, C, most, 10, 1), (0, (7, 1)))


class LineTest(unittest.TestCase):
    def test_example(self):
        self.assertEqual(line_of(TASKS, PLAN, "a", "undo"), ((9, 2), (1, 8)))

    def test_by_hand(self):
        self.assertEqual(line_of(TASKS, PLAN, "a", "cost"), ((3, 4), (1, 1)))
        self.assertEqual(line_of(TASKS, PLAN, "b", "cost"), ((17, 4), (1, 2)))
        self.assertEqual(line_of(TASKS, PLAN, "b", "undo"), ((19, 4), (0, 1)))
        # A task that does not stand in the plan, and one without an undo cost.
        for what in ("cost", "undo"):
            self.assertEqual(line_of(TASKS, PLAN, "n", what), ((19, 4), (0, 1)))
        self.assertEqual(line_of(TASKS, PLAN, "c", "cost"), ((19, 4), (0, 1)))
        self.assertEqual(line_of(TASKS, ("order", [C, ("back", 9, C), N]), "c", "cost"), ((14, 1), (2, 1)))
        self.assertEqual(line_of(TASKS, NOTHING, "a", "cost"), ((0, 1), (0, 1)))

    def test_numbers_put_in(self):
        for tasks, plan in samples(119, 80, 10 ** 4):
            for name in "abc":
                cost, undo, ends = tasks[name]
                begin, slope = [Fraction(*one) for one in line_of(tasks, plan, name, "cost")]
                for number in (0, 1, cost, 1000, 10 ** 12):
                    changed = with_task(tasks, name, (number, undo, ends))
                    self.assertEqual(mean_money(changed, plan), pair(begin + slope * number), (tasks, plan))
                self.assertEqual(pair(slope), mean_begins(tasks, plan).get(name, (0, 1)))
                if undo is not None:
                    begin, slope = [Fraction(*one) for one in line_of(tasks, plan, name, "undo")]
                    for number in (0, 1, undo, 1000, 10 ** 12):
                        changed = with_task(tasks, name, (cost, number, ends))
                        self.assertEqual(mean_money(changed, plan), pair(begin + slope * number), (tasks, plan))
                    self.assertEqual(pair(slope), mean_undos(tasks, plan).get(name, (0, 1)))
                elif name in paths_of(plan).values():
                    with self.assertRaises(InvalidName):
                        line_of(tasks, plan, name, "undo")

    def test_wrong_names_and_kinds(self):
        for name in ANYTHING + ["d", "A", "aa", " a", ["a"], b"a"]:
            for what in ("cost", "undo", None):
                with self.assertRaises(InvalidName, msg=repr(name)):
                    line_of(TASKS, PLAN, name, what)
        for what in ANYTHING + ["Cost", "undos", "cost ", "lost", ["cost"], ("undo",), b"cost"]:
            for name in ("a", "c"):
                with self.assertRaises(InvalidKind, msg=repr(what)):
                    line_of(TASKS, PLAN, name, what)
        for plan in (C, PLAN):
            with self.assertRaises(InvalidName):
                line_of(TASKS, plan, "c", "undo")


class ArgumentsTest(unittest.TestCase):
    def test_first_errors(self):
        for numbers in [(1, 1), (None, 1), (1, None)]:
            check_first_errors(self, lambda tasks, plan: worth(tasks, plan, *numbers))
            for other in (A, None):
                check_first_errors(self, lambda tasks, plan: best_limit(tasks, plan, other, *numbers))
                check_first_errors(self, lambda tasks, plan: best_delay(tasks, plan, other, 1, *numbers))
                check_first_errors(self, lambda tasks, plan: best_delay(tasks, plan, other, None, *numbers))
            check_first_errors(self, lambda tasks, plan: best_limit(tasks, A, plan, *numbers))
            check_first_errors(self, lambda tasks, plan: best_delay(tasks, A, plan, None, *numbers))
        check_first_errors(self, by_limit)
        for name, what in [("a", "cost"), (None, None)]:
            check_first_errors(self, lambda tasks, plan: line_of(tasks, plan, name, what))

    def test_errors_of_both_plans(self):
        for call in (lambda plan, other: best_limit(large_tasks(), plan, other, None, None),
                     lambda plan, other: best_delay(large_tasks(), plan, other, None, None, None)):
            for plan, other, error, field in [
                (SIZE_401, None, TooLarge, 401), (None, SIZE_401, InvalidPlan, ()), (A, SPAN_401, TooLarge, 401),
                (B, ("both", [A, ("keep", 1)]), InvalidPlan, (1,)),
            ]:
                with self.assertRaises(error) as caught:
                    call(plan, other)
                self.assertEqual(list(vars(caught.exception).values()), [field])

    def test_by_name(self):
        self.assertEqual(worth(rate=1, reward=20, plan=PLAN, tasks=TASKS), (1, 2))
        self.assertEqual(len(by_limit(plan=PLAN, tasks=TASKS)), 3)
        self.assertEqual(best_limit(rate=1, reward=10, other=C, plan=B, tasks=TASKS), (1, (29, 4)))
        self.assertEqual(best_delay(rate=1, reward=10, most=5, other=C, plan=FAIL, tasks=TASKS), (0, (7, 1)))
        self.assertEqual(line_of(what="undo", name="a", plan=PLAN, tasks=TASKS), ((9, 2), (1, 8)))

    def test_arguments_stay_and_results_are_new(self):
        tasks = tasks_example()
        plan = ("order", [A, ("watch", 1, ("both", [C]), B)])
        before = copy.deepcopy((tasks, plan))
        told = by_limit(tasks, plan)
        copied = list(told)
        told.clear()
        self.assertEqual(by_limit(tasks, plan), copied)
        worth(tasks, plan, 1, 1)
        best_limit(tasks, plan, plan, 1, 1)
        best_delay(tasks, plan, plan, 3, 1, 1)
        line_of(tasks, plan, "a", "cost")
        self.assertEqual((tasks, plan), before)


if __name__ == "__main__":
    unittest.main()
