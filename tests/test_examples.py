"""Tests of the examples of the document, as they stand there: [21], [23], [24], [25], [29], [34], [35], [40],
[42], [44], [46], [49]."""

import doctest
import unittest

from prepaidplans.errors import InvalidText
from prepaidplans.texts import parse_plan

EXAMPLES = [
    r"""
>>> from prepaidplans.rows import Row, over, plus
>>> row = Row([(1, (1, 2)), (3, (1, 4))])
>>> [(row * row).pairs(), (row + row).cut(2).pairs(), row.up_to(2), plus((1, 6), (1, 3)), over((1, 2), (-3, 4))]
[[(2, (1, 4)), (4, (1, 4)), (6, (1, 16))], [(1, (1, 1))], (1, 2), (1, 2), (-2, 3)]
""",
    r"""
>>> from prepaidplans.plans import fault_of, size, span, task_paths
>>> tasks = {"a": (4, 2, [(2, "done", (1, 1))])}
>>> plan = ("order", [("task", "a"), ("again", 2, 1, ("keep", ("task", "a")))])
>>> [task_paths(tasks, plan), size(tasks, plan), span(tasks, plan), fault_of(tasks, ("both", [plan, ("keep", ("task", "d"))]))]
[[(0,), (1, 0), (1, 1)], 7, 7, (1,)]
""",
    r"""
>>> tasks = {"a": (4, 2, [(1, "failed", (1, 2)), (2, "done", (1, 2))]), "b": (1, 3, [(1, "done", (3, 4)), (3, "failed", (1, 4))]), "c": (2, None, [(1, "done", (1, 1))])}
>>> from prepaidplans.texts import format_plan, format_tasks, parse_plan
>>> plan = ("watch", 2, ("task", "c"), ("order", [("task", "a"), ("task", "b")]))
>>> [format_plan(tasks, plan), parse_plan(tasks, "back 5 c"), format_tasks(tasks)]
['watch 2 c order ( a b )', ('back', 5, ('task', 'c')), 'a 4 2 -1:1/2 +2:1/2\nb 1 3 +1:3/4 -3:1/4\nc 2 - +1:1/1']
""",
    r"""
>>> tasks = {"a": (4, 2, [(1, "failed", (1, 2)), (2, "done", (1, 2))]), "b": (1, 3, [(1, "done", (3, 4)), (3, "failed", (1, 4))]), "c": (2, None, [(1, "done", (1, 1))])}
>>> plan = ("order", [("task", "a"), ("task", "b")])
>>> from prepaidplans.accounts import account, money_of, undone
>>> from prepaidplans.courses import count_courses, course_of
>>> word, tick, course = course_of(tasks, plan, {(0,): (2, "done"), (1,): (3, "failed")})
>>> [word, tick, course, count_courses(tasks, plan)]
['failed', 5, [((0,), 0, 2, 'done'), ((1,), 2, 5, 'failed')], 3]
>>> [account(tasks, plan, course), money_of(tasks, plan, course), undone(tasks, plan, course)]
[(7, 0, 0), 7, [(5, (0,))]]
>>> course_of(tasks, ("race", plan[1]), {(0,): (2, "done"), (1,): (3, "failed")})
('done', 2, [((0,), 0, 2, 'done'), ((1,), 0, 2, 'stopped')])
""",
    r"""
>>> tasks = {"a": (4, 2, [(1, "failed", (1, 2)), (2, "done", (1, 2))]), "b": (1, 3, [(1, "done", (3, 4)), (3, "failed", (1, 4))]), "c": (2, None, [(1, "done", (1, 1))])}
>>> plan = ("order", [("task", "a"), ("task", "b")])
>>> from prepaidplans.means import chance, mean_end, mean_money, mean_undos, rows_of
>>> rows_of(tasks, plan)
([(3, (3, 8))], [(1, (1, 2)), (5, (1, 8))], [(0, (4, 1), (0, 1)), (2, (3, 2), (0, 1)), (3, (9, 8), (0, 1))], [(3, (15, 8), (0, 1))])
>>> [chance(tasks, plan), mean_money(tasks, plan), mean_end(tasks, plan), mean_undos(tasks, plan)]
[(3, 8), (19, 4), (9, 4), {'a': (1, 8), 'b': (0, 1)}]
>>> from prepaidplans.contexts import are_alike, in_context, parting
>>> [are_alike(tasks, plan, ("order", [plan, ("order", [])])), parting(tasks, plan, ("order", plan[1][::-1])), in_context(tasks, plan, "undone", 2)]
[True, ('money', 0, (4, 1), (1, 1)), (11, 2)]
""",
    r"""
>>> tasks = {"a": (4, 2, [(1, "failed", (1, 2)), (2, "done", (1, 2))]), "b": (1, 3, [(1, "done", (3, 4)), (3, "failed", (1, 4))]), "c": (2, None, [(1, "done", (1, 1))])}
>>> from prepaidplans.orders import best_order, count_best_orders, price
>>> parts = [("task", "c"), ("task", "b"), ("task", "a")]
>>> [price(tasks, parts[2]), price(tasks, parts[1]), best_order(tasks, parts), count_best_orders(tasks, parts)]
[((0, 1), (5, 1), (1, 2)), ((0, 1), (13, 4), (1, 4)), [2, 1, 0], 1]
>>> from prepaidplans.arrows import best_with_arrows, blocks, woven
>>> parts = parts[1:]
>>> [blocks(tasks, parts), blocks(tasks, parts[::-1]), best_with_arrows(tasks, parts, [(0, 1)]), woven(tasks, [parts[:1], parts[1:]])]
[[(0, 1)], [(0, 0), (1, 1)], [0, 1], [(1, 0), (0, 0)]]
""",
    r"""
>>> tasks = {"d": (1, 9, [(1, "done", (1, 2)), (1, "failed", (1, 2))]), "e": (3, 0, [(1, "done", (1, 2)), (1, "failed", (1, 2))])}
>>> from prepaidplans.ways import best_ways, ranges
>>> [ranges(tasks, [("task", "d"), ("task", "e")]), best_ways(tasks, [("task", "d"), ("task", "e")], (1, 2))]
[[((0, 1), (4, 9), [0, 1]), ((4, 9), (1, 1), [1, 0])], [1, 0]]
""",
    r"""
>>> tasks = {"a": (4, 2, [(1, "failed", (1, 2)), (2, "done", (1, 2))]), "b": (1, 3, [(1, "done", (3, 4)), (3, "failed", (1, 4))]), "c": (2, None, [(1, "done", (1, 1))])}
>>> from prepaidplans.halves import apart_pairs, fewest_changes, half_course, needed_undos
>>> plan = ("order", [("task", "c"), ("task", "a")])
>>> [half_course(tasks, plan), needed_undos(tasks, plan), fewest_changes(tasks, ["c", "a", "c"]), apart_pairs(tasks, ["c", "a", "c"])]
[[((0,), 0, 1, 'done'), ((1,), 1, 2, 'failed')], ['c'], [(0, 'undo')], [(0, 1)]]
""",
    r"""
>>> tasks = {"a": (4, 2, [(1, "failed", (1, 2)), (2, "done", (1, 2))]), "b": (1, 3, [(1, "done", (3, 4)), (3, "failed", (1, 4))]), "c": (2, None, [(1, "done", (1, 1))])}
>>> plan = ("order", [("task", "a"), ("task", "b")])
>>> from prepaidplans.choices import best_limit, by_limit, line_of, worth
>>> by_limit(tasks, plan)
[(0, (0, 1), (4, 1)), (2, (0, 1), (11, 2)), (3, (3, 8), (19, 4))]
>>> [worth(tasks, plan, 20, 1), line_of(tasks, plan, "a", "undo"), best_limit(tasks, ("task", "b"), ("task", "c"), 10, 1)]
[(1, 2), ((9, 2), (1, 8)), (1, (29, 4))]
""",
    r"""
>>> tasks = {"a": (4, 2, [(1, "failed", (1, 2)), (2, "done", (1, 2))]), "b": (1, 3, [(1, "done", (3, 4)), (3, "failed", (1, 4))]), "c": (2, None, [(1, "done", (1, 1))])}
>>> plan = ("order", [("task", "a"), ("task", "b")])
>>> from prepaidplans.rest import news, rest_of
>>> [rest_of(tasks, plan, [((0,), 0, None, "open")], 0), rest_of(tasks, plan, [((0,), 0, 2, "done"), ((1,), 2, None, "open")], 2)]
[((3, 8), (19, 4), (0, 1), (9, 4)), ((3, 4), (11, 2), (0, 1), (7, 2))]
>>> news(tasks, plan, [((0,), 0, None, "open")], 0)
[((1, 2), [((0,), 0, None, 'open')]), ((1, 2), [((0,), 0, 1, 'failed')])]
""",
    r"""
>>> tasks = {"a": (4, 2, [(1, "failed", (1, 2)), (2, "done", (1, 2))]), "b": (1, 3, [(1, "done", (3, 4)), (3, "failed", (1, 4))]), "c": (2, None, [(1, "done", (1, 1))])}
>>> from prepaidplans.engine import CountingEngine
>>> engine = CountingEngine(tasks, ("other", [("within", 1, ("task", "b")), ("task", "c")]))
>>> [engine.running, engine.go_on(), engine.now, engine.go_on(), engine.running, engine.course]
[[(0,)], [], 1, [(1,)], [(1,)], [((0,), 0, 1, 'stopped'), ((1,), 1, None, 'open')]]
>>> [engine.now, engine.end((1,), "done"), engine.word, engine.begun, engine.described(), engine.undo(), engine.running]
[2, None, 'done', {'b': 1, 'c': 1}, ['running 0', 'tick 2', 'begun 2'], None, [(1,)]]
""",
]


class ExamplesTest(unittest.TestCase):
    def test_examples(self):
        for number, text in enumerate(EXAMPLES):
            test = doctest.DocTestParser().get_doctest(text, {}, f"example {number}", None, 0)
            told = []
            failed, tried = doctest.DocTestRunner().run(test, out=told.append)
            self.assertGreater(tried, 1)
            self.assertEqual(failed, 0, "".join(told))

    def test_example_that_raises(self):
        with self.assertRaises(InvalidText) as caught:
            parse_plan({"a": (1, 1, [(1, "done", (1, 1))])}, "order ( a d )")
        self.assertEqual(caught.exception.index, 3)


if __name__ == "__main__":
    unittest.main()
