"""Tests of prepaidplans.tasks: [6], [22]."""

import copy
import string
import unittest

from prepaidplans.errors import InvalidName, InvalidTask, InvalidTasks
from prepaidplans.tasks import is_sure, is_task, is_tasks, last_end, success, with_task
from values import ANYTHING, Twin, sure, tasks_example

MOST = 10 ** 12
WORDS = "order other both race again within later keep easy back watch".split()


def with_ends(*ends):
    return (1, 1, list(ends))


def even_ends(many):
    """Return a task of so many ends with equal shares."""
    return with_ends(*[(tick, "done", (1, many)) for tick in range(1, many + 1)])


RIGHT = [
    sure(), sure(cost=0), sure(cost=MOST), sure(undo=0), sure(undo=MOST), sure(undo=None), sure(tick=1), sure(tick=30),
    (MOST, None, [(30, "failed", (1, 1))]),
    with_ends((1, "failed", (1, 1))),
    with_ends((1, "done", (1, 2)), (1, "failed", (1, 2))),
    with_ends((1, "done", (1, 3)), (1, "failed", (1, 3)), (2, "done", (1, 3))),
    with_ends((1, "failed", (1, 2)), (2, "done", (1, 2))),
    with_ends((1, "failed", (1, 2)), (2, "failed", (1, 2))),
    with_ends((29, "done", (1, 1000)), (30, "done", (999, 1000))),
    with_ends((1, "done", (1, 6)), (2, "done", (1, 3)), (4, "failed", (1, 2))),
    even_ends(2), even_ends(7), even_ends(8),
]

WRONG_ENDS = [
    [], (), None, {}, "", [None], [()], [(1, "done")], [(1, "done", (1, 1), 1)], [[1, "done", (1, 1)]],
    ((1, "done", (1, 1)),), {(1, "done", (1, 1)): True}, [(1, "done", [1, 1])], [((1, "done", (1, 1)),)],
    [(0, "done", (1, 1))], [(31, "done", (1, 1))], [(-1, "done", (1, 1))], [(True, "done", (1, 1))],
    [("1", "done", (1, 1))], [(None, "done", (1, 1))], [(10 ** 59, "done", (1, 1))],
    [(1, "Done", (1, 1))], [(1, "stopped", (1, 1))], [(1, "open", (1, 1))], [(1, "", (1, 1))], [(1, None, (1, 1))],
    [(1, True, (1, 1))], [(1, ["done"], (1, 1))], [(1, ("done",), (1, 1))], [(1, Twin(), (1, 1))], [(1, b"done", (1, 1))],
    [(1, "done", 1)], [(1, "done", None)], [(1, "done", (True, 1))], [(1, "done", (1, True))], [(1, "done", (2, 2))],
    [(1, "done", (1, 2))], [(1, "done", (2, 1))], [(1, "done", (0, 1))], [(1, "done", (-1, 1))],
    [(1, "done", (1, 1)), (2, "done", (0, 1))], [(1, "done", (0, 1)), (2, "done", (1, 1))],
    [(1, "done", (2, 1)), (2, "failed", (-1, 1))], [(1, "done", (3, 2)), (2, "failed", (-1, 2))],
    [(1, "done", (2, 4)), (2, "failed", (1, 2))], [(1, "done", (1, 2)), (2, "failed", (1, 3))],
    [(1, "done", (1, 2)), (2, "failed", (2, 3))], [(1, "done", (1, 1)), (2, "failed", (1, 1))],
    [(1, "done", (1, 1001)), (2, "done", (1000, 1001))], [(1, "done", (1, 2000)), (2, "done", (1999, 2000))],
    [(1, "failed", (1, 2)), (1, "done", (1, 2))], [(2, "done", (1, 2)), (1, "failed", (1, 2))],
    [(1, "done", (1, 2)), (1, "done", (1, 2))], [(1, "failed", (1, 2)), (1, "failed", (1, 2))],
    [(1, "done", (1, 3)), (3, "done", (1, 3)), (2, "done", (1, 3))],
    [(1, "done", (1, 3)), (2, "done", (1, 3)), (2, "done", (1, 3))], even_ends(9)[2], even_ends(10)[2],
]

WRONG = [
    *ANYTHING, *[(1, 1, ends) for ends in WRONG_ENDS], (1, 1), (1, 1, [(1, "done", (1, 1))], 1),
    [1, 1, [(1, "done", (1, 1))]], (1, [(1, "done", (1, 1))], 1), tasks_example(), ([(1, "done", (1, 1))],),
    *[sure(cost=value) for value in (-1, MOST + 1, True, False, None, "1", (1, 1), [1], 10 ** 59, Twin())],
    *[sure(undo=value) for value in (-1, MOST + 1, True, False, "", "-", (1, 1), [1], -10 ** 59, Twin())],
]

GOOD_NAMES = ["a", "z", "task", "done", "failed", "abcdefgh", "zzzzzzzz", "orde", "orders", "watches", "backa", "in"]
BAD_NAMES = [
    "", "abcdefghi", "A", "aB", "a1", "1", "a_b", "a b", " a", "a ", "-", "a-", "a\n", "`", "{", "\u00e4", "\u0430", "()",
    *WORDS,
]
NO_NAMES = [None, True, False, 0, 1, b"a", (), ("a",), frozenset(["a"]), Twin()]


def names_up_to(many):
    """Return tasks with so many names."""
    return {letter: sure() for letter in string.ascii_lowercase[:many]}


class IsTaskTest(unittest.TestCase):
    def test_right_ones(self):
        for value in RIGHT:
            self.assertIs(is_task(value), True, value)
            self.assertIs(is_tasks({"a": value}), True, value)

    def test_wrong_ones(self):
        for value in WRONG:
            self.assertIs(is_task(value), False, value)
            self.assertIs(is_tasks({"a": value}), False, value)

    def test_bounds_of_money(self):
        for money in (0, 1, MOST - 1, MOST):
            self.assertIs(is_task(sure(cost=money, undo=money)), True)
        for money in (-1, MOST + 1):
            self.assertIs(is_task(sure(cost=money)), False)
            self.assertIs(is_task(sure(undo=money)), False)

    def test_bounds_of_ticks_and_ends(self):
        for tick in range(-2, 35):
            self.assertIs(is_task(sure(tick=tick)), 1 <= tick <= 30)
        for many in range(1, 12):
            self.assertIs(is_task(even_ends(many)), many <= 8)

    def test_bounds_of_the_bottom(self):
        for bottom in (2, 999, 1000, 1001, 1002, 10 ** 59):
            ends = [(1, "done", (1, bottom)), (2, "failed", (bottom - 1, bottom))]
            self.assertIs(is_task((0, 0, ends)), bottom <= 1000)

    def test_each_place_ascends(self):
        for first in [(1, "done"), (1, "failed"), (2, "done"), (2, "failed")]:
            for second in [(1, "done"), (1, "failed"), (2, "done"), (2, "failed")]:
                ends = [(*first, (1, 2)), (*second, (1, 2))]
                self.assertIs(is_task((0, 0, ends)), first < second, ends)

    def test_by_name(self):
        self.assertIs(is_task(value=sure()), True)
        self.assertIs(is_tasks(value={"a": sure()}), True)


class IsTasksTest(unittest.TestCase):
    def test_names(self):
        for name in GOOD_NAMES:
            self.assertIs(is_tasks({name: sure()}), True, name)
        for name in [*BAD_NAMES, *NO_NAMES]:
            self.assertIs(is_tasks({name: sure()}), False, name)
            self.assertIs(is_tasks({"a": sure(), name: sure()}), False, name)

    def test_number_of_names(self):
        for many in range(16):
            self.assertIs(is_tasks(names_up_to(many)), 1 <= many <= 12, many)

    def test_letters(self):
        for many in range(12):
            self.assertIs(is_tasks({"q" * many: sure()}), 1 <= many <= 8, many)
        for code in range(32, 127):
            letter = chr(code)
            self.assertIs(is_tasks({"a" + letter: sure()}), letter in string.ascii_lowercase, letter)

    def test_any_value(self):
        for value in [*ANYTHING, [("a", sure())], ["a"], {"a"}, (("a", sure()),), sure(), "a"]:
            self.assertIs(is_tasks(value), False, value)
        self.assertIs(is_tasks(tasks_example()), True)
        self.assertIs(is_tasks({**tasks_example(), "d": None}), False)


def calls():
    """Return calls of everything here that takes tasks, with right arguments behind them."""
    return [lambda tasks: success(tasks, "a"), lambda tasks: is_sure(tasks, "a"), lambda tasks: last_end(tasks, "a"),
            lambda tasks: with_task(tasks, "a", sure())]


class InvalidTasksTest(unittest.TestCase):
    def wrong_name(self, tasks):
        found = []
        for call in calls():
            with self.assertRaises(InvalidTasks) as caught:
                call(tasks)
            found.append(caught.exception.name)
        self.assertEqual(found, found[:1] * 4)
        return found[0]

    def test_the_least_wrong_name(self):
        self.assertEqual(self.wrong_name({"c": None, "b": 1, "a": sure()}), "b")
        self.assertEqual(self.wrong_name({"b": 1, "c": None, "a": sure()}), "b")
        self.assertEqual(self.wrong_name({"a": 1, "b": sure()}), "a")
        self.assertEqual(self.wrong_name({"b": sure(), "aa": (), "ab": ()}), "aa")
        self.assertEqual(self.wrong_name({"z": (), "a": sure(), "m": sure()}), "z")
        twelve = {**names_up_to(12), "l": sure(tick=31)}
        self.assertEqual(self.wrong_name(twelve), "l")
        for value in WRONG:
            self.assertEqual(self.wrong_name({"b": value, "a": sure(), "c": value}), "b")

    def test_none_if_it_is_no_dict_of_names(self):
        for value in [*ANYTHING, names_up_to(13), [("a", sure())], ["a"], sure()]:
            self.assertIsNone(self.wrong_name(value))
        for name in [*BAD_NAMES, *NO_NAMES]:
            self.assertIsNone(self.wrong_name({name: sure()}))
            self.assertIsNone(self.wrong_name({"a": None, name: sure()}))
            self.assertIsNone(self.wrong_name({"zz": sure(), name: None}))
        self.assertIsNone(self.wrong_name({letter: None for letter in string.ascii_lowercase[:13]}))


class ReadingTest(unittest.TestCase):
    def test_success_is_sure_last_end(self):
        tasks = {
            "a": with_ends((1, "done", (1, 6)), (1, "failed", (1, 2)), (9, "done", (1, 3))),
            "b": sure(tick=30), "c": with_ends((4, "failed", (1, 1))),
            "d": with_ends((1, "done", (1, 2)), (2, "done", (1, 2))),
            "e": with_ends((1, "done", (999, 1000)), (30, "failed", (1, 1000))),
            "f": with_ends((3, "done", (2, 5)), (3, "failed", (3, 5))),
        }
        names = sorted(tasks)
        self.assertEqual([success(tasks, name) for name in names],
                         [(1, 2), (1, 1), (0, 1), (1, 1), (999, 1000), (2, 5)])
        answers = [is_sure(tasks, name) for name in names]
        self.assertEqual(answers, [False, True, False, True, False, False])
        self.assertTrue(all(type(answer) is bool for answer in answers))
        self.assertEqual([last_end(tasks, name) for name in names], [9, 30, 4, 2, 30, 3])

    def test_by_name(self):
        tasks = tasks_example()
        self.assertEqual(success(name="b", tasks=tasks), (3, 4))
        self.assertIs(is_sure(name="c", tasks=tasks), True)
        self.assertEqual(last_end(name="b", tasks=tasks), 3)

    def test_invalid_name(self):
        for value in [*ANYTHING, "d", "aa", "A", "", ["a"], ("a",), "abcdefgh", *WORDS]:
            for call in (success, is_sure, last_end):
                with self.assertRaises(InvalidName, msg=repr(value)):
                    call(tasks_example(), value)

    def test_tasks_come_ahead_of_the_name(self):
        for call in (success, is_sure, last_end):
            with self.assertRaises(InvalidTasks):
                call({"a": None}, "zz")
            with self.assertRaises(InvalidTasks):
                call(None, None)
            with self.assertRaises(InvalidTasks):
                call({"a": sure(), "b": None}, "a")


class WithTaskTest(unittest.TestCase):
    def test_new_and_instead_of_an_old_one(self):
        tasks = tasks_example()
        self.assertEqual(with_task(tasks, "d", sure()), {**tasks_example(), "d": sure()})
        self.assertEqual(with_task(tasks, "b", sure(7)), {**tasks_example(), "b": sure(7)})
        self.assertEqual(with_task(name="a", task=sure(7), tasks=tasks), {**tasks_example(), "a": sure(7)})
        self.assertEqual(tasks, tasks_example())

    def test_keys_ascend(self):
        tasks = {"m": sure(), "c": sure(), "z": sure(), "ca": sure()}
        for name, keys in (("b", "b c ca m z"), ("d", "c ca d m z"), ("zz", "c ca m z zz"), ("c", "c ca m z"),
                           ("z", "c ca m z"), ("m", "c ca m z")):
            self.assertEqual(list(with_task(tasks, name, sure(2))), keys.split())
        self.assertEqual(list(tasks), ["m", "c", "z", "ca"])

    def test_every_list_is_new(self):
        tasks, task = tasks_example(), sure(5)
        before = copy.deepcopy(tasks)
        for name in ("a", "d"):
            result = with_task(tasks, name, task)
            kept = copy.deepcopy(result)
            lists = [tasks["a"][2], tasks["b"][2], tasks["c"][2], task[2]]
            for value in result.values():
                self.assertFalse(any(value[2] is one for one in lists))
            for one in lists:
                one.append((30, "done", (1, 2)))
            tasks["q"] = 1
            self.assertEqual(result, kept)
            del tasks["q"]
            for one in lists:
                one.pop()
            for value in result.values():
                value[2].clear()
            result.clear()
            self.assertEqual(tasks, before)
            self.assertEqual(task, sure(5))

    def test_names(self):
        for name in GOOD_NAMES:
            self.assertEqual(with_task({"a": sure()}, name, sure(2))[name], sure(2))
        for name in [*BAD_NAMES, *ANYTHING, *NO_NAMES, ["a"], {"a": 1}, "A"]:
            with self.assertRaises(InvalidName, msg=repr(name)):
                with_task({"a": sure()}, name, sure(2))

    def test_a_thirteenth_name(self):
        eleven, twelve = names_up_to(11), names_up_to(12)
        self.assertEqual(with_task(eleven, "z", sure()), {**eleven, "z": sure()})
        self.assertEqual(with_task(twelve, "l", sure(9)), {**twelve, "l": sure(9)})
        with self.assertRaises(InvalidName):
            with_task(twelve, "z", sure())
        with self.assertRaises(InvalidName):
            with_task(twelve, "z", None)
        self.assertEqual(twelve, names_up_to(12))

    def test_invalid_task(self):
        for value in WRONG:
            for name in ("a", "d"):
                with self.assertRaises(InvalidTask, msg=repr(value)):
                    with_task(tasks_example(), name, value)
        for value in RIGHT:
            self.assertEqual(with_task(tasks_example(), "d", value)["d"], value)

    def test_errors_in_the_order_of_the_arguments(self):
        with self.assertRaises(InvalidTasks):
            with_task({}, "order", None)
        with self.assertRaises(InvalidTasks):
            with_task({"a": None}, "a", sure())
        with self.assertRaises(InvalidName):
            with_task(tasks_example(), "order", None)


if __name__ == "__main__":
    unittest.main()
