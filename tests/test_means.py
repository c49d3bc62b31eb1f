"""Tests of prepaidplans.means: [16], [17], [19], [30], [31], [32]."""

import copy
import unittest
from fractions import Fraction

from oracle import Means, pair, paths_of
from prepaidplans.accounts import account, money_of
from prepaidplans.courses import all_courses, count_courses, course_of, share_of
from prepaidplans.errors import InvalidWeights
from prepaidplans.means import (
    chance, mean_begins, mean_end, mean_lost, mean_money, mean_undos, measured, rows_of,
)
from prepaidplans.rows import is_fraction
from samples import samples
from values import (
    A, ANYTHING, B, C, SIZE_400, SPAN_400, Twin, check_first_errors, large_tasks, sure, tasks_example,
)

HALF = (1, 2)
NO = (0, 1)

# a costs 4, takes 1 or 2 ticks; b costs 1, takes 1 or 3; c costs 2, takes 1, is never undone; n is never done.
TASKS = {**tasks_example(), "n": (5, 7, [(2, "failed", (1, 1))])}
N = ("task", "n")

# Plans, and their rows as reckoned by hand.
ROWS = [
    (A, [(2, HALF)], [(1, HALF)], [(0, (4, 1), NO), (2, (1, 1), NO)], [(2, (1, 1), NO)]),
    (C, [(1, (1, 1))], [], [(0, (2, 1), NO), (1, NO, (1, 1))], [(1, NO, (1, 1))]),
    (N, [], [(2, (1, 1))], [(0, (5, 1), NO)], []),
    # Lists without parts.
    (("order", []), [(0, (1, 1))], [], [], []),
    (("both", []), [(0, (1, 1))], [], [], []),
    (("other", []), [], [(0, (1, 1))], [], []),
    (("race", []), [], [(0, (1, 1))], [], []),
    (("order", [A, ("other", [])]), [], [(1, HALF), (2, HALF)], [(0, (4, 1), NO), (2, (1, 1), NO)], []),
    (("order", [A, C]), [(3, HALF)], [(1, HALF)], [(0, (4, 1), NO), (2, (2, 1), NO), (3, NO, HALF)], [(3, (1, 1), HALF)]),
    (("other", [A, C]), [(2, (1, 1))], [], [(0, (4, 1), NO), (1, (1, 1), NO), (2, (1, 1), HALF)], [(2, (1, 1), HALF)]),
    # Done together at tick 2, or stopped at tick 1.
    (("both", [A, C]), [(2, HALF)], [(1, HALF)], [(0, (6, 1), NO), (1, NO, (1, 1)), (2, (1, 1), NO)], [(2, (1, 1), HALF)]),
    (("race", [A, C]), [(1, (1, 1))], [], [(0, (6, 1), NO), (1, NO, (1, 1))], [(1, NO, (1, 1))]),
    (("race", [C, C]), [(1, (1, 1))], [], [(0, (4, 1), NO), (1, NO, (2, 1))], [(1, NO, (1, 1))]),
    (("race", [A, A]), [(2, (3, 4))], [(1, (1, 4))], [(0, (8, 1), NO), (2, (2, 1), NO)], [(2, (3, 2), NO)]),
    (("again", 2, 3, A), [(2, HALF), (6, (1, 4))], [(5, (1, 4))],
     [(0, (4, 1), NO), (2, (1, 1), NO), (4, (2, 1), NO), (6, HALF, NO)], [(2, (1, 1), NO), (6, HALF, NO)]),
    # A limit stops what is going on; what is paid at its very tick still counts.
    (("within", 1, A), [], [(1, (1, 1))], [(0, (4, 1), NO)], []),
    (("within", 2, A), [(2, HALF)], [(1, HALF)], [(0, (4, 1), NO), (2, (1, 1), NO)], [(2, (1, 1), NO)]),
    (("within", 2, ("order", [A, C])), [], [(1, HALF), (2, HALF)], [(0, (4, 1), NO), (2, (2, 1), NO)], []),
    (("within", 0, A), [], [(0, (1, 1))], [(0, (4, 1), NO)], []),
    (("later", 2, A), [(4, HALF)], [(3, HALF)], [(2, (4, 1), NO), (4, (1, 1), NO)], [(4, (1, 1), NO)]),
    # What is kept is returned at once, and what is covered; a back is paid then.
    (("keep", A), [(2, HALF)], [(1, HALF)], [(0, (4, 1), NO)], []),
    (("keep", C), [(1, (1, 1))], [], [(0, (2, 1), NO)], []),
    (("back", 10, A), [(2, HALF)], [(1, HALF)], [(0, (4, 1), NO), (2, (5, 1), NO)], [(2, (5, 1), NO)]),
    (("back", 0, C), [(1, (1, 1))], [], [(0, (2, 1), NO)], []),
    (("back", 6, ("order", [])), [(0, (1, 1))], [], [(0, (6, 1), NO)], [(0, (6, 1), NO)]),
    (("easy", A), [(1, HALF), (2, HALF)], [], [(0, (4, 1), NO), (2, (1, 1), NO)], [(2, (1, 1), NO)]),
    # The money of a side counts where it begins: b costs 1 here, for what is undone of it is never paid.
    (("watch", 1, B, A), [(2, HALF)], [(1, HALF)], [(0, (4, 1), NO), (1, HALF, NO), (2, (1, 1), NO)], [(2, (1, 1), NO)]),
    (("watch", 2, B, A), [(2, HALF)], [(1, HALF)], [(0, (4, 1), NO), (2, (1, 1), NO)], [(2, (1, 1), NO)]),
    (("watch", 0, ("order", [C, N]), A), [(2, HALF)], [(1, HALF)], [(0, (11, 1), (1, 1)), (2, (1, 1), NO)],
     [(2, (1, 1), NO)]),
    (("within", 1, ("watch", 1, ("order", [C, N]), A)), [], [(1, (1, 1))], [(0, (4, 1), NO), (1, (7, 2), HALF)], []),
    (("within", 1, ("watch", 2, ("order", [C, N]), ("later", 5, A))), [], [(1, (1, 1))], [], []),
]


def all_means(tasks, plan):
    """Return what the single means tell of a plan."""
    return (chance(tasks, plan), mean_end(tasks, plan), mean_money(tasks, plan), mean_lost(tasks, plan))


class RowsTest(unittest.TestCase):
    def test_by_hand(self):
        for plan, *rows in ROWS:
            self.assertEqual(rows_of(TASKS, plan), tuple(rows), plan)
            by_rows = [sum(Fraction(*entry[index]) for entry in rows[2]) - sum(Fraction(*entry[index]) for entry in rows[3])
                       for index in (1, 2)]
            self.assertEqual(mean_money(TASKS, plan), pair(by_rows[0]), plan)
            self.assertEqual(mean_lost(TASKS, plan), pair(by_rows[1]), plan)

    def test_entries_in_which_money_alone_is_0(self):
        # What is kept at tick 1 returns what is paid then for c: so money is 3 - 3 there, and lost is 1.
        tasks = {"a": (2, 3, [(1, "done", (1, 1))]), "d": (0, None, [(1, "done", (1, 1))])}
        plan = ("both", [("keep", A), ("task", "d")])
        self.assertEqual(rows_of(tasks, plan)[2:], ([(0, (2, 1), NO), (1, NO, (1, 1))], [(1, NO, (1, 1))]))
        # With what is paid and returned at one tick nothing remains.
        self.assertEqual(rows_of(tasks, ("keep", A))[2:], ([(0, (2, 1), NO)], []))
        # What is returned can be more than what is paid at its tick.
        plan = ("keep", ("order", [A, A]))
        self.assertEqual(rows_of(tasks, plan)[2], [(0, (2, 1), NO), (1, (5, 1), NO), (2, (-3, 1), NO)])

    def test_fractions_in_lowest_terms(self):
        for tasks, plan in samples(31, 80, 10 ** 6):
            rows = rows_of(tasks, plan)
            for row in rows:
                ticks = [entry[0] for entry in row]
                self.assertEqual(ticks, sorted(set(ticks)))
                for entry in row:
                    self.assertIs(type(entry), tuple)
                    self.assertTrue(all(is_fraction(one) for one in entry[1:]))
                    self.assertTrue(any(one != NO for one in entry[1:]))
            ended = [Fraction(*share) for _, share in rows[0] + rows[1]]
            self.assertEqual(sum(ended), 1)
            self.assertTrue(all(is_fraction(one) for one in all_means(tasks, plan)))


class MeansTest(unittest.TestCase):
    def test_sure_and_never_done(self):
        sure_ones = [C, ("order", [C, C]), ("both", [C, C]), ("race", [N, C]), ("other", [N, C]), ("easy", N), ("keep", C)]
        for plan in sure_ones:
            self.assertEqual(chance(TASKS, plan), (1, 1))
            self.assertEqual(chance(TASKS, ("order", [plan, N])), (0, 1))
        for plan in (N, ("order", [N, C]), ("both", [C, N]), ("race", [N, N]), ("again", 20, 0, N), ("within", 0, C)):
            self.assertEqual(chance(TASKS, plan), (0, 1))
            self.assertEqual(chance(TASKS, ("other", [plan, C])), (1, 1))
        self.assertEqual(all_means(TASKS, N), ((0, 1), (2, 1), (5, 1), (0, 1)))
        self.assertEqual(all_means(TASKS, C), ((1, 1), (1, 1), (2, 1), (0, 1)))
        self.assertEqual(all_means(TASKS, ("order", [C, N])), ((0, 1), (3, 1), (7, 1), (1, 1)))
        self.assertEqual(all_means(TASKS, ("again", 20, 1, N)), ((0, 1), (59, 1), (100, 1), (0, 1)))
        self.assertEqual(all_means(TASKS, ("order", [])), ((1, 1), (0, 1), (0, 1), (0, 1)))
        self.assertEqual(all_means(TASKS, ("later", 9, ("race", []))), ((0, 1), (9, 1), (0, 1), (0, 1)))

    def test_sides_do_not_count_for_the_end(self):
        plan = ("watch", 1, ("order", [N, N]), ("later", 1, C))
        self.assertEqual(all_means(TASKS, plan), ((1, 1), (2, 1), (7, 1), (0, 1)))
        self.assertEqual(mean_begins(TASKS, plan), {"c": (1, 1), "n": (1, 1)})

    def test_names_ascend(self):
        plan = ("order", [C, ("other", [B, A]), ("again", 2, 0, B)])
        for call in (mean_begins, mean_undos):
            self.assertEqual(list(call(TASKS, plan)), ["a", "b", "c"])
            self.assertEqual(list(call(TASKS, ("race", [N, ("watch", 100, C, B)]))), ["b", "c", "n"])
            self.assertEqual(call(TASKS, ("order", [])), {})

    def test_begins_and_undos(self):
        plan = ("order", [C, ("again", 2, 0, A), B])
        self.assertEqual(mean_begins(TASKS, plan), {"a": (3, 2), "b": (3, 4), "c": (1, 1)})
        self.assertEqual(mean_undos(TASKS, plan), {"a": (3, 16), "b": (0, 1), "c": (7, 16)})
        # What is covered is not undone by itself, and neither is what is kept.
        for around in (lambda part: ("keep", part), lambda part: ("back", 5, part)):
            self.assertEqual(mean_undos(TASKS, ("order", [around(C), ("order", [C, N])])), {"c": (1, 1), "n": (0, 1)})
        # What is done and loses the race at once is undone; what is stopped is not.
        self.assertEqual(mean_undos(TASKS, ("race", [C, C, A])), {"a": (0, 1), "c": (1, 1)})
        self.assertEqual(mean_undos(TASKS, ("watch", 0, ("order", [C, N]), C)), {"c": (1, 1), "n": (0, 1)})
        # Never begun: the name is there.
        self.assertEqual(mean_begins(TASKS, ("order", [N, A])), {"a": (0, 1), "n": (1, 1)})

    def test_against_all_runs(self):
        for tasks, plan in samples(32, 220, 400):
            self.means_as_by_the_oracle(tasks, plan)

    def test_each_word_against_all_runs(self):
        inner = [
            ("order", [A, B]), ("other", [A, B]), ("both", [A, B]), ("race", [A, A, B]), ("again", 2, 1, A), ("within", 1, A),
            ("later", 1, A), ("keep", A), ("easy", A), ("back", 7, C), ("watch", 1, B, A), C, N, ("order", []), ("race", []),
        ]
        outer = [
            lambda part: ("order", [part, A]), lambda part: ("order", [C, part]), lambda part: ("other", [part, C]),
            lambda part: ("both", [part, B]), lambda part: ("race", [part, C]), lambda part: ("race", [A, part]),
            lambda part: ("again", 2, 1, part), lambda part: ("within", 2, part), lambda part: ("later", 1, part),
            lambda part: ("keep", part), lambda part: ("easy", part), lambda part: ("back", 3, part),
            lambda part: ("watch", 1, part, A), lambda part: ("watch", 2, C, part), lambda part: ("watch", 0, part, part),
        ]
        for around in outer:
            for part in inner:
                self.means_as_by_the_oracle(TASKS, around(part))

    def means_as_by_the_oracle(self, tasks, plan):
        means = Means(tasks, plan)
        about = (tasks, plan)
        self.assertEqual(rows_of(tasks, plan), means.told_rows(), about)
        told = (means.chance, means.mean_end, means.money, means.lost)
        self.assertEqual(all_means(tasks, plan), tuple(pair(one) for one in told), about)
        begins = {name: pair(mean) for name, mean in means.begins.items()}
        undos = {name: pair(mean) for name, mean in means.undos.items()}
        self.assertEqual(mean_begins(tasks, plan), begins, about)
        self.assertEqual(mean_undos(tasks, plan), undos, about)
        weights = {"a": (3, -5), "c": (-1, 7)}
        total = sum(first * means.begins.get(name, 0) + second * means.undos.get(name, 0)
                    for name, (first, second) in weights.items())
        self.assertEqual(measured(tasks, plan, weights), pair(total), about)

    def test_against_all_courses(self):
        for tasks, plan in samples(33, 60, 10 ** 6):
            if count_courses(tasks, plan) > 300:
                continue
            courses = all_courses(tasks, plan)
            shares = [Fraction(*share_of(tasks, plan, course)) for course in courses]
            money = [money_of(tasks, plan, course) for course in courses]
            lost = [account(tasks, plan, course)[2] for course in courses]
            self.assertEqual(mean_money(tasks, plan), pair(sum(map(lambda one, other: one * other, shares, money))))
            self.assertEqual(mean_lost(tasks, plan), pair(sum(map(lambda one, other: one * other, shares, lost))))
            # Mean lost is 0 exactly if no course loses a task.
            self.assertEqual(mean_lost(tasks, plan) == NO, not any(lost))


class ExchangeTest(unittest.TestCase):
    """Plans with equal rows can be exchanged in every larger plan."""

    def test_equal_rows(self):
        sets = [
            (A, ("order", [A]), ("other", [A]), ("both", [A]), ("race", [A]), ("again", 1, 9, A), ("within", 2, A)),
            (("order", [A, ("order", [B, C])]), ("order", [("order", [A, B]), C])),
            (("again", 3, 2, A), ("other", [A, ("later", 2, A), ("later", 2, A)])),
            (("both", [A, B]), ("both", [B, A])), (("keep", A), ("keep", ("keep", A))), (("easy", ("easy", A)), ("easy", A)),
            (("watch", 0, ("order", []), A), A), (("later", 1, ("later", 2, A)), ("later", 3, A)),
            (("within", 1, ("order", [A, A])), ("within", 1, A)),
        ]
        contexts = [
            lambda part: ("order", [C, part, B]), lambda part: ("other", [part, C]), lambda part: ("both", [part, B]),
            lambda part: ("race", [B, part, A]), lambda part: ("again", 3, 1, part), lambda part: ("within", 1, part),
            lambda part: ("watch", 1, part, B), lambda part: ("order", [("watch", 1, B, part), N]),
            lambda part: ("order", [("back", 7, part), B]), lambda part: ("order", [("easy", part), ("keep", part), N]),
        ]
        for plans in sets:
            for other in plans[1:]:
                self.assertEqual(rows_of(TASKS, other), rows_of(TASKS, plans[0]), other)
                for context in contexts:
                    self.assertEqual(all_means(TASKS, context(other)), all_means(TASKS, context(plans[0])), other)


class MeasuredTest(unittest.TestCase):
    def test_sums(self):
        plan = ("order", [C, ("again", 2, 0, A), B])
        begins, undos = mean_begins(TASKS, plan), mean_undos(TASKS, plan)
        for name in "abc":
            self.assertEqual(measured(TASKS, plan, {name: (1, 0)}), begins[name])
            self.assertEqual(measured(TASKS, plan, {name: (0, 1)}), undos[name])
            self.assertEqual(measured(TASKS, plan, {name: (-1, 0)}), pair(-Fraction(*begins[name])))
        self.assertEqual(measured(TASKS, plan, {"c": (5, 16), "a": (2, 0)}), (15, 1))
        self.assertEqual(measured(TASKS, plan, {}), NO)
        self.assertEqual(measured(TASKS, plan, {"n": (3, 4)}), NO)
        self.assertEqual(measured(TASKS, plan, {name: (0, 0) for name in TASKS}), NO)
        self.assertEqual(measured(TASKS, plan, {"c": (10 ** 59, 0)}), (10 ** 59, 1))
        # The same sum as the money, if nothing is covered.
        weights = {name: (task[0], task[1] or 0) for name, task in TASKS.items()}
        self.assertEqual(measured(TASKS, plan, weights), mean_money(TASKS, plan))

    def test_backs_count_nothing(self):
        plan = ("order", [("back", 100, C), N])
        self.assertEqual(measured(TASKS, plan, {"c": (1, 10), "n": (100, 1000)}), (101, 1))
        self.assertEqual(mean_money(TASKS, plan), (107, 1))
        self.assertEqual(measured(TASKS, ("order", [("back", 100, ("order", [])), N]), {}), NO)

    def test_order_of_keys(self):
        plan = ("order", [C, A])
        self.assertEqual(measured(TASKS, plan, {"a": (1, 2), "c": (3, 4)}), measured(TASKS, plan, {"c": (3, 4), "a": (1, 2)}))

    def test_wrong_weights(self):
        wrong = [value for value in ANYTHING if value != {}]
        wrong += [{name: (1, 1)} for name in ("", "d", "A", "order", "aa", None, 0, True, ("a",), b"a", Twin())]
        wrong += [{"a": value} for value in ANYTHING]
        wrong += [{"a": value} for value in ((1,), (1, 2, 3), [1, 2], (1, None), (None, 1), (True, 1), (1, False), ("1", 1),
                                             (1, "1"), ((1, 1), 1), (1, (1, 1)), {1: 1}, {0: 1, 1: 2}, "12", (1, Twin()))]
        wrong += [{"a": (1, 1), "b": None}, {"n": (True, 0)}, {"n": (0, 0), "x": (0, 0)}, [("a", (1, 1))], [("a", 1, 1)]]
        for value in wrong:
            if not (isinstance(value, dict) and value.get("a") in [(1, 1)] and len(value) == 1):
                with self.assertRaises(InvalidWeights, msg=repr(value)):
                    measured(TASKS, ("order", [A, B]), value)


class LargeTest(unittest.TestCase):
    def test_order_of_38(self):
        ends = [(tick, word, (1, 8)) for tick in (1, 2, 3, 4) for word in ("done", "failed")]
        tasks = {"a": (1, 1, ends)}
        plan = ("order", [A] * 38)
        self.assertEqual(chance(tasks, plan), (1, 2 ** 38))
        begins = sum(Fraction(1, 2 ** index) for index in range(38))
        self.assertEqual(mean_begins(tasks, plan), {"a": pair(begins)})
        self.assertEqual(mean_end(tasks, plan), pair(begins * Fraction(5, 2)))
        undos = sum(Fraction(index, 2 ** (index + 1)) for index in range(38))
        self.assertEqual(mean_undos(tasks, plan), {"a": pair(undos)})
        self.assertEqual(mean_money(tasks, plan), pair(begins + undos))

    def test_hundreds_of_task_paths(self):
        tasks = {"a": (1, None, [(1, "done", (1, 1000)), (1, "failed", (999, 1000))])}
        plan = ("again", 19, 0, ("again", 20, 0, A))
        failed = Fraction(999, 1000)
        self.assertEqual(chance(tasks, plan), pair(1 - failed ** 380))
        begins = sum(failed ** index for index in range(380))
        self.assertEqual(mean_begins(tasks, plan), {"a": pair(begins)})
        self.assertEqual(mean_end(tasks, plan), pair(begins))
        self.assertEqual(mean_lost(tasks, plan), NO)
        rows = rows_of(tasks, plan)
        self.assertEqual(rows[0], [(tick, pair(failed ** (tick - 1) / 1000)) for tick in range(1, 381)])
        self.assertEqual(rows[1], [(380, pair(failed ** 380))])
        lost = ("order", [("again", 19, 0, ("again", 19, 0, A)), ("other", [])])
        self.assertEqual(mean_lost(tasks, lost), pair(1 - failed ** 361))

    def test_both_and_race_of_39(self):
        tasks = {"a": (1, 1, [(1, "done", (1, 3)), (2, "done", (1, 3)), (3, "failed", (1, 3))])}
        third = Fraction(1, 3)
        both, race = ("both", [A] * 39), ("race", [A] * 39)
        self.assertEqual(chance(tasks, both), pair((2 * third) ** 39))
        self.assertEqual(rows_of(tasks, both)[:2],
                         ([(1, pair(third ** 39)), (2, pair((2 * third) ** 39 - third ** 39))],
                          [(3, pair(1 - (2 * third) ** 39))]))
        first = 1 - (2 * third) ** 39
        second = (2 * third) ** 39 - third ** 39
        self.assertEqual(rows_of(tasks, race)[:2], ([(1, pair(first)), (2, pair(second))], [(3, pair(third ** 39))]))
        self.assertEqual(rows_of(tasks, race)[3], [(1, pair(first), NO), (2, pair(second), NO)])
        self.assertEqual(mean_begins(tasks, race), {"a": (39, 1)})

    def test_size_and_span_of_400(self):
        self.assertEqual(all_means(large_tasks(), SIZE_400), ((1, 1), (20, 1), (20, 1), NO))
        self.assertEqual(all_means(large_tasks(), SPAN_400), ((1, 1), (400, 1), (13, 1), NO))
        self.assertEqual(rows_of(large_tasks(), SPAN_400)[3], [(400, (13, 1), NO)])


class ArgumentsTest(unittest.TestCase):
    def test_errors_in_their_order(self):
        for call in (rows_of, chance, mean_end, mean_money, mean_lost, mean_begins, mean_undos):
            check_first_errors(self, call)
        for weights in (None, {}, {"a": True}):
            check_first_errors(self, lambda tasks, plan: measured(tasks, plan, weights))

    def test_by_name(self):
        plan = ("order", [A, B])
        for call in (rows_of, chance, mean_end, mean_money, mean_lost, mean_begins, mean_undos):
            self.assertEqual(call(plan=plan, tasks=TASKS), call(TASKS, plan))
        self.assertEqual(measured(weights={"a": (1, 0)}, plan=plan, tasks=TASKS), (1, 1))

    def test_arguments_stay_and_results_are_new(self):
        tasks = tasks_example()
        plan = ("order", [A, ("watch", 1, ("both", [C]), B)])
        weights = {"a": (1, 2)}
        before = copy.deepcopy((tasks, plan, weights))
        rows = rows_of(tasks, plan)
        copied = copy.deepcopy(rows)
        for row in rows:
            row.clear()
        begins = mean_begins(tasks, plan)
        undos = mean_undos(tasks, plan)
        again = copy.deepcopy((begins, undos))
        begins.clear()
        undos.clear()
        all_means(tasks, plan)
        measured(tasks, plan, weights)
        self.assertEqual((tasks, plan, weights), before)
        self.assertEqual(rows_of(tasks, plan), copied)
        self.assertEqual((mean_begins(tasks, plan), mean_undos(tasks, plan)), again)

    def test_order_of_the_keys_of_tasks(self):
        tasks = tasks_example()
        turned = {name: tasks[name] for name in "cba"}
        plan = ("race", [("order", [A, B]), ("keep", C)])
        self.assertEqual(rows_of(turned, plan), rows_of(tasks, plan))
        self.assertEqual(list(mean_begins(turned, plan)), ["a", "b", "c"])

    def test_undos_of_money(self):
        # Undo costs of 0 and of None are not the same for lost.
        for undo, lost in [(0, NO), (None, (1, 1))]:
            tasks = {"a": (1, undo, [(1, "done", (1, 1))]), "b": sure()}
            plan = ("order", [A, ("other", [])])
            self.assertEqual((mean_money(tasks, plan), mean_lost(tasks, plan)), ((1, 1), lost))
            self.assertEqual(mean_undos(tasks, plan), {"a": (1, 1)})

    def test_one_course(self):
        tasks = large_tasks()
        plan = ("order", [A, B, ("later", 3, A)])
        word, tick, course = course_of(tasks, plan, {path: (30 if name == "b" else 1, "done")
                                                     for path, name in paths_of(plan).items()})
        self.assertEqual((word, tick), ("done", 35))
        self.assertEqual(mean_end(tasks, plan), (tick, 1))
        self.assertEqual(mean_money(tasks, plan), (money_of(tasks, plan, course), 1))


if __name__ == "__main__":
    unittest.main()
