"""Tests of the interface: every name of the modules that are there, in its file, with its arguments."""

import importlib
import inspect
import unittest

FUNCTIONS = {
    "rows": {
        "is_fraction": "value", "fraction": "top bottom", "plus": "one other", "minus": "one other",
        "times": "one other", "over": "one other", "is_less": "one other",
    },
    "tasks": {
        "is_task": "value", "is_tasks": "value", "success": "tasks name", "is_sure": "tasks name",
        "last_end": "tasks name", "with_task": "tasks name task",
    },
    "plans": {
        "is_plan": "tasks value", "fault_of": "tasks value", "names_in": "tasks plan", "task_paths": "tasks plan",
        "name_at": "tasks plan path", "size": "tasks plan", "span": "tasks plan",
    },
    "texts": {
        "format_plan": "tasks plan", "parse_plan": "tasks text", "format_tasks": "tasks", "parse_tasks": "text",
    },
    "courses": {
        "course_of": "tasks plan fates", "is_course": "tasks plan value", "end_of": "tasks plan course",
        "share_of": "tasks plan course", "all_courses": "tasks plan", "count_courses": "tasks plan",
    },
    "accounts": {
        "account": "tasks plan course", "money_of": "tasks plan course", "undone": "tasks plan course",
        "standing": "tasks plan course", "kept": "tasks plan course",
    },
    "means": {
        "rows_of": "tasks plan", "chance": "tasks plan", "mean_end": "tasks plan", "mean_money": "tasks plan",
        "mean_lost": "tasks plan", "mean_begins": "tasks plan", "mean_undos": "tasks plan",
        "measured": "tasks plan weights",
    },
    "contexts": {
        "in_context": "tasks plan kind tick", "are_alike": "tasks plan other", "parting": "tasks plan other",
    },
    "orders": {
        "price": "tasks plan", "best_order": "tasks parts", "is_best_order": "tasks parts value",
        "count_best_orders": "tasks parts",
    },
    "arrows": {
        "best_with_arrows": "tasks parts arrows", "is_best_with_arrows": "tasks parts arrows value",
        "blocks": "tasks parts", "woven": "tasks chains", "is_best_weaving": "tasks chains value",
    },
    "ways": {
        "best_ways": "tasks parts fails", "is_best_ways": "tasks parts fails value", "ranges": "tasks parts",
    },
    "halves": {
        "is_safe": "tasks plan", "half_course": "tasks plan", "needed_undos": "tasks plan",
        "fewest_changes": "tasks names", "apart_pairs": "tasks names",
    },
    "choices": {
        "worth": "tasks plan reward rate", "by_limit": "tasks plan", "best_limit": "tasks plan other reward rate",
        "best_delay": "tasks plan other most reward rate", "line_of": "tasks plan name what",
    },
    "rest": {
        "is_beginning": "tasks plan value now", "rest_of": "tasks plan beginning now", "news": "tasks plan beginning now",
    },
}

ENGINES = ["Engine", "StrictEngine", "CountingEngine", "StrictCountingEngine"]

METHODS = {"moved": "self ticks", "cut": "self tick", "at": "self tick", "up_to": "self tick", "total": "self",
           "pairs": "self", "__init__": "self pairs"}

OPERATORS = ["__add__", "__mul__", "__eq__", "__len__", "__contains__"]


class InterfaceTest(unittest.TestCase):
    def test_functions(self):
        for name, functions in FUNCTIONS.items():
            module = importlib.import_module(f"prepaidplans.{name}")
            for function, names in functions.items():
                one = getattr(module, function)
                self.assertEqual(one.__module__, module.__name__)
                self.assertEqual(list(inspect.signature(one).parameters), names.split())

    def test_row(self):
        rows = importlib.import_module("prepaidplans.rows")
        self.assertEqual(rows.Row.__module__, "prepaidplans.rows")
        for method, names in METHODS.items():
            self.assertEqual(list(inspect.signature(vars(rows.Row)[method]).parameters), names.split())
        self.assertEqual([name for name in OPERATORS if name not in vars(rows.Row)], [])

    def test_engines(self):
        engine = importlib.import_module("prepaidplans.engine")
        for name in ENGINES:
            one = getattr(engine, name)
            self.assertEqual(one.__module__, "prepaidplans.engine")
            self.assertEqual(list(inspect.signature(one).parameters), ["tasks", "plan"])


if __name__ == "__main__":
    unittest.main()
