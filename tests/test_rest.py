"""Tests of prepaidplans.rest: [45], [46]."""

import copy
import random
import unittest
from fractions import Fraction

from oracle import Means, World, all_fates, pair
from prepaidplans.courses import is_course
from prepaidplans.errors import InvalidBeginning, InvalidTick, TooMany
from prepaidplans.means import chance, mean_end, mean_lost, mean_money
from prepaidplans.rest import is_beginning, news, rest_of
from samples import samples
from values import A, ANYTHING, B, C, SIZE_400, Twin, check_first_errors, large_tasks, sure, tasks_example

TASKS = {**tasks_example(), "n": (5, 7, [(2, "failed", (1, 1))])}
N = ("task", "n")
PLAN = ("order", [A, B])
NO = (0, 1)

# Plans of every word, some of them with sides that go on behind their end.
PLANS = [
    A, N, ("order", []), PLAN, ("other", [A, B]), ("both", [A, B]), ("race", [A, B]), ("race", [A, ("later", 2, C)]),
    ("again", 3, 0, A), ("again", 2, 2, ("order", [C, A])), ("within", 2, PLAN), ("within", 1, ("other", [A, B])), ("later", 2, A),
    ("order", [("keep", C), A]), ("order", [("easy", A), ("back", 7, C), B]), ("watch", 1, B, A), ("watch", 2, ("order", [A, N]), A),
    ("watch", 0, ("later", 3, A), C), ("both", [("watch", 1, ("again", 2, 1, A), ("later", 3, C)), A]),
    ("within", 2, ("watch", 2, B, ("later", 5, A))), ("again", 2, 0, ("watch", 1, C, B)), ("within", 0, A),
    ("order", [("race", [C, A, B]), ("other", [("both", [A, C]), B])]), ("within", 4, ("again", 2, 1, ("again", 2, 0, A))),
    ("later", 3, ("other", [])), ("watch", 1, ("watch", 1, B, ("order", [A, A])), A),
]


def shown(course, now):
    """Return what is shown at a tick of a course."""
    return [(path, begin, end, word) if end <= now else (path, begin, None, "open")
            for path, begin, end, word in course if begin <= now]


def key(beginning):
    return tuple((path, begin, -1 if end is None else end, word) for path, begin, end, word in beginning)


def groups_of(means, now):
    """Return a dict from the keys of the beginnings at a tick to (beginning, list of (world, share))."""
    groups = {}
    for world, share in means.worlds:
        beginning = shown(world.course(), now)
        groups.setdefault(key(beginning), (beginning, []))[1].append((world, share))
    return groups


def last_tick(means):
    """Return a tick behind all that happens."""
    return max(max([world.root.ended] + [end for _, _, end, _ in world.course()]) for world, _ in means.worlds) + 2


def mean(runs, number):
    total = sum(share for _, share in runs)
    return sum(share * number(world) for world, share in runs) / total


def told_of(runs):
    """Return what rest_of tells of runs, as fractions."""
    return (mean(runs, lambda world: world.root.word == "done"), mean(runs, World.money), mean(runs, World.lost),
            mean(runs, lambda world: world.root.ended))


def changes_of(chance, beginning):
    """Return beginnings with one change each."""
    found = [beginning + [((7,), 0, None, "open")], [((), 0, None, "open")] + beginning, tuple(beginning), beginning[::-1]]
    for index, (path, begin, end, word) in enumerate(beginning):
        others = [
            (path, begin + 1, end, word), (path, begin - 1, end, word), (path + (0,), begin, end, word), (path[:-1], begin, end, word),
            (path, begin, 1 if end is None else None, word), (path, begin, 1 if end is None else end + 1, word),
            (path, begin, None if end is None else end - 1, word), (path, begin, begin + 1, "done"), (path, begin, begin + 1, "failed"),
            (path, begin, begin + 2, "done"), (path, begin, None, "open"), (path, begin, end, "stopped"), (path, begin, end, "done"),
            (path, begin, begin, "stopped"), (path, begin, begin + 1, "stopped"), [path, begin, end, word], (path, begin, end),
        ]
        found += [beginning[:index] + [other] + beginning[index + 1:] for other in chance.sample(others, 6)]
        found += [beginning[:index] + beginning[index + 1:], beginning[:index] + [beginning[index]] * 2 + beginning[index + 1:]]
    return found


class AgainstAllRunsTest(unittest.TestCase):
    def test_rest_and_news(self):
        plans = [(TASKS, plan) for plan in PLANS] + samples(121, 60, 80)
        for tasks, plan in plans:
            means = Means(tasks, plan)
            for now in range(last_tick(means)):
                for beginning, runs in groups_of(means, now).values():
                    self.check(tasks, plan, beginning, now, runs)

    def check(self, tasks, plan, beginning, now, runs):
        about = (tasks, plan, beginning, now)
        self.assertIs(is_beginning(tasks, plan, beginning, now), True, about)
        told = told_of(runs)
        self.assertEqual(rest_of(tasks, plan, beginning, now), tuple(pair(one) for one in told), about)
        followers = {}
        total = sum(share for _, share in runs)
        for world, share in runs:
            follower = shown(world.course(), now + 1)
            old = followers.get(key(follower), (0, follower))[0]
            followers[key(follower)] = (old + share / total, follower)
        found = news(tasks, plan, beginning, now)
        self.assertEqual(found, [(pair(followers[one][0]), followers[one][1]) for one in sorted(followers)], about)
        rests = [rest_of(tasks, plan, follower, now + 1) for _, follower in found]
        for index in range(4):
            mean_of_news = sum(Fraction(*share) * Fraction(*rest[index]) for (share, _), rest in zip(found, rests))
            self.assertEqual(mean_of_news, told[index], about)

    def test_one_change_each(self):
        chance = random.Random(122)
        for tasks, plan in [(TASKS, plan) for plan in PLANS] + samples(123, 40, 40):
            means = Means(tasks, plan)
            for now in range(last_tick(means)):
                groups = groups_of(means, now)
                others = groups_of(means, now + 1)
                for beginning, _ in groups.values():
                    for value in changes_of(chance, beginning):
                        right = isinstance(value, list) and value in [one for one, _ in groups.values()]
                        self.assertIs(is_beginning(tasks, plan, value, now), right, (tasks, plan, value, now))
                    for other in (now + 1, max(now - 1, 0)):
                        groups_there = others if other == now + 1 else groups_of(means, other)
                        self.assertIs(is_beginning(tasks, plan, beginning, other), key(beginning) in groups_there)

    def test_the_beginning_at_tick_0_and_at_the_end(self):
        for tasks, plan in [(TASKS, plan) for plan in PLANS] + samples(124, 40, 300):
            begun = shown(World(tasks, plan, all_fates(tasks, plan)[0][0]).course(), 0)
            self.assertEqual(rest_of(tasks, plan, begun, 0),
                             (chance(tasks, plan), mean_money(tasks, plan), mean_lost(tasks, plan), mean_end(tasks, plan)))
            for fates, _ in all_fates(tasks, plan)[::7]:
                world = World(tasks, plan, fates)
                course = world.course()
                for now in (world.now + 1, 401, 10 ** 59):
                    self.assertIs(is_beginning(tasks, plan, course, now), True)
                    self.assertTrue(is_course(tasks, plan, course))
                    self.assertEqual(news(tasks, plan, course, now), [((1, 1), course)])
                    told = (world.root.word == "done", world.money(), world.lost(), world.root.ended)
                    self.assertEqual(rest_of(tasks, plan, course, now), tuple((int(one), 1) for one in told))


class RestTest(unittest.TestCase):
    def test_example(self):
        self.assertEqual(rest_of(TASKS, PLAN, [((0,), 0, None, "open")], 0), ((3, 8), (19, 4), NO, (9, 4)))
        self.assertEqual(rest_of(TASKS, PLAN, [((0,), 0, 2, "done"), ((1,), 2, None, "open")], 2), ((3, 4), (11, 2), NO, (7, 2)))
        self.assertEqual(news(TASKS, PLAN, [((0,), 0, None, "open")], 0),
                         [((1, 2), [((0,), 0, None, "open")]), ((1, 2), [((0,), 0, 1, "failed")])])

    def test_ends_at_the_tick_of_a_stop(self):
        plan = ("both", [A, ("order", [C, B])])
        # a fails at 1: what c does at 1 counts, and b begins and is stopped at once.
        told = [((0,), 0, 1, "failed"), ((1, 0), 0, 1, "done"), ((1, 1), 1, 1, "stopped")]
        self.assertEqual(rest_of(TASKS, plan, told, 1), (NO, (7, 1), (1, 1), (1, 1)))
        self.assertFalse(is_beginning(TASKS, plan, told[:2], 1))
        # Known that a did not fail at 1, it is done at 2.
        going = [((0,), 0, None, "open"), ((1, 0), 0, 1, "done"), ((1, 1), 1, None, "open")]
        self.assertEqual(rest_of(TASKS, plan, going, 1), ((3, 4), (15, 2), (1, 4), (5, 2)))
        self.assertEqual(news(TASKS, plan, going, 1), [
            ((1, 4), [((0,), 0, 2, "done"), ((1, 0), 0, 1, "done"), ((1, 1), 1, None, "open")]),
            ((3, 4), [((0,), 0, 2, "done"), ((1, 0), 0, 1, "done"), ((1, 1), 1, 2, "done")])])

    def test_waiting(self):
        # Nothing runs while a delay goes on, and then something begins.
        plan = ("again", 2, 3, N)
        failed = [((0,), 0, 2, "failed")]
        for now in (2, 3):
            self.assertEqual(news(TASKS, plan, failed, now), [((1, 1), failed)])
            self.assertEqual(rest_of(TASKS, plan, failed, now), (NO, (10, 1), NO, (7, 1)))
        self.assertEqual(news(TASKS, plan, failed, 4), [((1, 1), failed + [((1,), 5, None, "open")])])
        self.assertFalse(is_beginning(TASKS, plan, failed, 5))
        self.assertTrue(is_beginning(TASKS, ("later", 100, A), [], 99))
        self.assertFalse(is_beginning(TASKS, ("later", 100, A), [], 100))
        self.assertEqual(news(TASKS, ("later", 100, A), [], 99), [((1, 1), [((), 100, None, "open")])])

    def test_a_side_that_goes_on(self):
        plan = ("watch", 1, ("order", [C, N, N]), A)
        now = [((1,), 0, 2, "done"), ((0, 0), 1, 2, "done"), ((0, 1), 2, None, "open")]
        for tick, beginning in [(2, now), (3, now), (4, now[:2] + [((0, 1), 2, 4, "failed")])]:
            self.assertEqual(rest_of(TASKS, plan, beginning, tick), ((1, 1), (11, 1), (1, 1), (2, 1)))
        self.assertEqual(news(TASKS, plan, now, 3), [((1, 1), now[:2] + [((0, 1), 2, 4, "failed")])])

    def test_none_comes_ahead_of_all_integers(self):
        tasks = {"a": (1, 1, [(1, "done", (1, 4)), (1, "failed", (1, 4)), (2, "done", (1, 2))])}
        plan = ("both", [A, ("later", 1, A)])
        begun = [((0,), 0, None, "open")]
        second = ((1,), 1, None, "open")
        self.assertEqual(news(tasks, plan, begun, 0), [
            ((1, 2), [((0,), 0, None, "open"), second]), ((1, 4), [((0,), 0, 1, "done"), second]),
            ((1, 4), [((0,), 0, 1, "failed"), ((1,), 1, 1, "stopped")])])

    def test_wrong_values(self):
        begun = [((0,), 0, None, "open")]
        wrong = [value for value in ANYTHING] + [
            tuple(begun), [[(0,), 0, None, "open"]], [((0,), 0, None, "open", 1)], [((0,), 0, None)], [((False,), 0, None, "open")],
            [((0,), False, None, "open")], [((0,), 0, None, "OPEN")], [((0,), 0, 1, "open")], [((0,), 0, False, "open")],
            [([0], 0, None, "open")], [(0, 0, None, "open")], [((0,), None, None, "open")], [((0,), 0, None, None)],
            [((0,), 0, None, "done")], [((0,), 0, None, "stopped")], [(Twin(), 0, None, "open")], [((0,), Twin(), None, "open")],
            [((0,), 0, None, Twin())], [((0,), 0, Twin(), "open")], [Twin()], begun * 2, [((1,), 0, None, "open")], begun + [None],
            [((0,), 0, 0, "stopped")], [((0,), 0, True, "failed")], {((0,), 0, None, "open")}, "open", [((), 0, None, "open")],
            [((0,), -1, None, "open")], [((0,), 10 ** 59, None, "open")], [((0,), 0, -1, "failed")],
        ]
        for value in wrong:
            self.assertIs(is_beginning(TASKS, PLAN, value, 0), False, repr(value))
            for call in (rest_of, news):
                with self.assertRaises(InvalidBeginning, msg=repr(value)):
                    call(TASKS, PLAN, value, 0)
        self.assertIs(is_beginning(TASKS, PLAN, begun, 0), True)
        # Told ends that are later than now, and an end that is none of the task.
        for value, now in [([((0,), 0, 1, "failed")], 0), ([((0,), 0, 1, "done")], 1), (begun, 2), ([((0,), 0, 3, "failed")], 5)]:
            self.assertIs(is_beginning(TASKS, PLAN, value, now), False)

    def test_wrong_ticks(self):
        for now in [value for value in ANYTHING if value is True or value is False or value not in (0, 1, 10 ** 59)] + [-1, "0"]:
            for value in ([((0,), 0, None, "open")], None, []):
                for call in (is_beginning, rest_of, news):
                    with self.assertRaises(InvalidTick, msg=repr(now)):
                        call(TASKS, PLAN, value, now)


class LargeTest(unittest.TestCase):
    def test_number_of_news(self):
        ends = [(1, "done", (1, 3)), (1, "failed", (1, 3)), (2, "done", (1, 3))]
        tasks = {"a": (1, 1, ends), "b": (1, 1, [(1, "done", (1, 2)), (2, "done", (1, 2))]), "c": sure(), "d": (1, 1, ends[:2])}
        tasks["d"] = (1, 1, [(1, "done", (1, 2)), (1, "failed", (1, 2))])
        for names, many in [("aaaaabbb", 1944), ("bbbbbbbbbb", 1024), ("aaaaaaddcc", 2916), ("bbbbbbbbbbb", 2048), ("abcd" * 9, 6 ** 9)]:
            plan = ("race", [("task", name) for name in names])
            begun = [((index,), 0, None, "open") for index in range(len(names))]
            if many <= 2000:
                found = news(tasks, plan, begun, 0)
                self.assertEqual(len(found), many)
                self.assertEqual(sum(Fraction(*share) for share, _ in found), 1)
                self.assertEqual([key(one) for _, one in found], sorted(key(one) for _, one in found))
                self.assertTrue(all(is_beginning(tasks, plan, one, 1) for _, one in found))
            else:
                with self.assertRaises(TooMany) as caught:
                    news(tasks, plan, begun, 0)
                self.assertEqual(caught.exception.limit, 2000)
            self.assertEqual(rest_of(tasks, plan, begun, 0)[0], chance(tasks, plan))

    def test_38_tasks(self):
        ends = [(tick, word, (1, 8)) for tick in (1, 2, 3, 4) for word in ("done", "failed")]
        tasks = {"a": (10 ** 12, None, ends)}
        plan = ("race", [A] * 38)
        begun = [((index,), 0, None, "open") for index in range(38)]
        self.assertEqual(rest_of(tasks, plan, begun, 0)[0], pair(1 - Fraction(1, 2) ** 38))
        failed = [((index,), 0, 1, "failed") for index in range(37)] + begun[37:]
        told = rest_of(tasks, plan, failed, 1)
        self.assertEqual(told, ((1, 2), (38 * 10 ** 12, 1), NO, (3, 1)))
        self.assertEqual(len(news(tasks, plan, failed, 1)), 3)

    def test_hundreds_of_tasks(self):
        tasks = large_tasks()
        course = [((index // 20, index % 20), index % 20 + index // 20 * 20, index % 20 + index // 20 * 20 + 1, "done")
                  for index in range(20)]
        self.assertEqual(news(tasks, SIZE_400, course, 20), [((1, 1), course)])
        now = [entry for entry in course[:10]] + [((0, 10), 10, None, "open")]
        self.assertEqual(rest_of(tasks, SIZE_400, now, 10), ((1, 1), (20, 1), NO, (20, 1)))
        ends = [(1, "done", (1, 1000)), (1, "failed", (999, 1000))]
        tasks = {"a": (1, None, ends)}
        plan = ("again", 19, 0, ("again", 20, 0, A))
        now = [((index // 20, index % 20), index, index + 1, "failed") for index in range(150)] + [((7, 10), 150, None, "open")]
        failed = Fraction(999, 1000)
        told = rest_of(tasks, plan, now, 150)
        self.assertEqual(told[0], pair(1 - failed ** 230))
        self.assertEqual(told[1], pair(150 + sum(failed ** index for index in range(230))))


class ArgumentsTest(unittest.TestCase):
    def test_first_errors(self):
        for value, now in [([], 0), (None, 0), ([], None), (None, None)]:
            for call in (is_beginning, rest_of, news):
                check_first_errors(self, lambda tasks, plan: call(tasks, plan, value, now))

    def test_by_name(self):
        begun = [((0,), 0, None, "open")]
        self.assertIs(is_beginning(now=0, value=begun, plan=PLAN, tasks=TASKS), True)
        self.assertEqual(rest_of(now=0, beginning=begun, plan=PLAN, tasks=TASKS)[0], (3, 8))
        self.assertEqual(len(news(now=0, beginning=begun, plan=PLAN, tasks=TASKS)), 2)

    def test_arguments_stay_and_results_are_new(self):
        tasks = tasks_example()
        plan = ("both", [A, ("watch", 1, ("both", [C]), B)])
        begun = [((0,), 0, None, "open"), ((1, 1), 0, None, "open")]
        before = copy.deepcopy((tasks, plan, begun))
        found = news(tasks, plan, begun, 0)
        copied = copy.deepcopy(found)
        for _, follower in found:
            follower.clear()
        found.clear()
        self.assertEqual(news(tasks, plan, begun, 0), copied)
        ended = [((), 0, 1, "done")]
        follower = news(tasks, C, ended, 1)[0][1]
        follower.clear()
        self.assertEqual(ended, [((), 0, 1, "done")])
        rest_of(tasks, plan, begun, 0)
        is_beginning(tasks, plan, begun, 0)
        self.assertEqual((tasks, plan, begun), before)


if __name__ == "__main__":
    unittest.main()
