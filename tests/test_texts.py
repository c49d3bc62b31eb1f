"""Tests of prepaidplans.texts: [24], [25]."""

import copy
import random
import re
import unittest

from prepaidplans.errors import InvalidLine, InvalidText, TooLarge
from prepaidplans.plans import is_plan, size, span
from prepaidplans.tasks import is_tasks
from prepaidplans.texts import format_plan, format_tasks, parse_plan, parse_tasks
from samples import samples
from values import (
    A, ANYTHING, B, C, FREE, SIZE_400, SIZE_401, SIZE_421_AND_SPAN, SPAN_400, SPAN_401, check_first_errors, large_tasks,
    sure, tasks_example,
)

MOST = 10 ** 12

# Plans and their texts, each word at least once.
WRITTEN = [
    (A, "a"), (("order", []), "order ( )"), (("order", [A]), "order ( a )"), (("order", [A, B, A]), "order ( a b a )"),
    (("other", []), "other ( )"), (("other", [A, B]), "other ( a b )"), (("both", [A, B]), "both ( a b )"),
    (("both", []), "both ( )"), (("race", [B, A]), "race ( b a )"), (("race", []), "race ( )"),
    (("again", 1, 0, A), "again 1 0 a"), (("again", 20, 0, A), "again 20 0 a"),
    (("again", 2, 100, A), "again 2 100 a"),
    (("within", 0, A), "within 0 a"), (("within", 200, A), "within 200 a"), (("later", 0, A), "later 0 a"),
    (("later", 100, A), "later 100 a"), (("keep", A), "keep a"), (("easy", A), "easy a"),
    (("back", 0, A), "back 0 a"), (("back", MOST, A), "back 1000000000000 a"), (("back", 10, A), "back 10 a"),
    (("watch", 0, A, B), "watch 0 a b"), (("watch", 200, B, A), "watch 200 b a"),
    (("watch", 2, ("order", [A, B]), ("keep", C)), "watch 2 order ( a b ) keep c"),
    (("watch", 2, ("watch", 1, A, B), ("watch", 0, B, C)), "watch 2 watch 1 a b watch 0 b c"),
    (("order", [("other", [A, ("both", [])]), ("race", [B]), C]), "order ( other ( a both ( ) ) race ( b ) c )"),
    (("again", 2, 3, ("within", 4, ("later", 5, ("back", 6, ("easy", ("keep", A)))))),
     "again 2 3 within 4 later 5 back 6 easy keep a"),
]

# Texts of no plans, with the index of the first word with which nothing begins.
WRONG = [
    # What is no word of plans and no name of the tasks.
    ("", 0), (" ", 0), ("e", 0), ("A", 0), ("aa", 0), ("task", 0), ("task a", 0), ("Order ( a )", 0), ("orde", 0),
    ("orders ( a )", 0), ("(", 0), (")", 0), ("( a )", 0), ("1", 0), ("0", 0), ("-", 0), ("a,", 0), ("a\n", 0), ("\n", 0),
    ("order\n( a )", 0), ("a)", 0), ("order(", 0), ("order( a )", 0), ("order()", 0), ("'a'", 0), ("None", 0),
    # Too many words.
    ("a a", 1), ("a b c", 1), ("a )", 1), ("a (", 1), ("a 1", 1), ("a order", 1), ("order ( ) a", 3), ("order ( ) )", 3),
    ("order ( a ) ( b )", 4), ("keep a b", 2), ("within 1 a b", 3), ("watch 1 a b c", 4), ("again 1 1 a b", 4),
    # Spaces doubled, or at an end.
    (" a", 0), ("a ", 1), ("  ", 0), ("order  ( a )", 1), ("order (  a )", 2), ("order ( a  )", 3), ("order ( a )  ", 4),
    ("order ( ", 2), ("order ( a ", 3), ("order ", 1), ("keep ", 1), ("keep  a", 1), ("within ", 1), ("within 1 ", 2),
    ("within  1 a", 1), ("within 1  a", 2), (" keep a", 0), ("watch 1 a ", 3), ("watch 1  a b", 2),
    # Words that are missing.
    ("order", 1), ("order (", 2), ("order ( a", 3), ("order ( a b", 4), ("order ( order ( )", 5), ("other", 1),
    ("both (", 2), ("race ( a", 3), ("again", 1), ("again 1", 2), ("again 1 1", 3), ("within", 1), ("within 1", 2),
    ("later", 1), ("later 1", 2), ("keep", 1), ("easy", 1), ("easy keep", 2), ("back", 1), ("back 1", 2), ("watch", 1),
    ("watch 1", 2), ("watch 1 a", 3), ("watch 1 order ( a )", 6), ("order ( keep", 3), ("order ( within 1", 4),
    # Words in a wrong place.
    ("order a", 1), ("order a )", 1), ("order )", 1), ("order order", 1), ("order 1", 1), ("order ( (", 2),
    ("order ( 1", 2), ("order ( a ( b )", 3), ("order ( a , b )", 3), ("order ( keep )", 3), ("order ( within 1 )", 4),
    ("order ( watch 1 a )", 5), ("keep )", 1), ("keep (", 1), ("keep ( a )", 1), ("keep 1 a", 1), ("easy 1 a", 1),
    ("again a", 1), ("again 1 a", 2), ("again 1 keep a", 2), ("again 1 1 1 a", 3), ("within a", 1), ("within a 1", 1),
    ("within 1 1 a", 2), ("within ( 1 a )", 1), ("later a 1", 1), ("later 1 1 a", 2), ("back a", 1), ("back 1 1 a", 2),
    ("watch a b", 1), ("watch a 1 b", 1), ("watch 1 1 a b", 2), ("watch 1 a 1 b", 3), ("watch 1 ( a ) b", 2),
    ("order ( a d x )", 4), ("order ( a order b )", 4), ("keep task a", 1),
    # Numbers.
    ("again 0 0 a", 1), ("again 21 0 a", 1), ("again 1 101 a", 2), ("within 201 a", 1), ("later 101 a", 1),
    ("back 1000000000001 a", 1), ("watch 201 a b", 1), ("within 9999999999999999999999 a", 1), ("again 01 0 a", 1),
    ("again 1 00 a", 2), ("within 00 a", 1), ("within 05 a", 1), ("within 0200 a", 1), ("later 007 a", 1), ("back 010 a", 1),
    ("watch 02 a b", 1), ("within -1 a", 1), ("within +1 a", 1), ("within -0 a", 1), ("again +1 0 a", 1),
    ("again 1 -1 a", 2), ("later 1.0 a", 1), ("later 1e1 a", 1), ("later 0x1 a", 1), ("back 1_000 a", 1), ("back 1,0 a", 1),
    ("back - a", 1), ("within one a", 1), ("within None a", 1), ("within True a", 1), ("later 1\n a", 1), ("later ) a", 1),
    ("within " + "1" * 3000 + " a", 1), ("back " + "0" * 3000 + " a", 1), ("order ( a within 201 b )", 4),
]


def wrong_index(names, text):
    """Return the first index at which no plan goes on so, or None, found by what is expected, without a tree."""
    bounds = {"again": [(1, 20), (0, 100)], "within": [(0, 200)], "later": [(0, 100)], "keep": [], "easy": [],
              "back": [(0, MOST)], "watch": [(0, 200)]}
    expected = [("plan", 1)]
    begun = 0
    words = text.split(" ")
    for index, word in enumerate(words):
        if not expected:
            return index
        kind, *more = expected.pop()
        if kind == "number":
            if not re.fullmatch("0|[1-9][0-9]{0,12}", word) or not more[0] <= int(word) <= more[1]:
                return index
            continue
        if kind == "(":
            if word != "(":
                return index
            continue
        if kind == "parts":
            if word == ")":
                continue
            expected.append((kind, *more))
        begun += 1
        level = more[0]
        if word in ("order", "other", "both", "race"):
            expected.extend([("parts", level + 1), ("(",)])
        elif word in bounds:
            expected.extend([("plan", level + 1)] * (2 if word == "watch" else 1))
            expected.extend([("number", *one) for one in reversed(bounds[word])])
        elif word not in names:
            return index
        deepest = max([one[1] for one in expected if one[0] == "plan"], default=0)
        if begun + sum(one[0] == "plan" for one in expected) > 40 or max(level, deepest) > 8:
            return index
    return len(words) if expected else None


class PlanTest(unittest.TestCase):
    def refused(self, text, index, tasks=FREE):
        with self.assertRaises(InvalidText, msg=repr(text)) as caught:
            parse_plan(tasks, text)
        self.assertEqual(caught.exception.index, index, text)
        if isinstance(text, str):
            self.assertEqual(wrong_index(tasks, text), index, text)

    def right(self, plan, text, tasks=FREE):
        self.assertEqual(repr(parse_plan(tasks, text)), repr(plan))
        self.assertIsNone(wrong_index(tasks, text), text)

    def test_there_and_back(self):
        for plan, text in WRITTEN:
            self.assertEqual(format_plan(FREE, plan), text)
            self.right(plan, text)

    def test_samples(self):
        for tasks, plan in samples(1, 300, 10 ** 9):
            text = format_plan(tasks, plan)
            self.right(plan, text, tasks)
            self.assertEqual(format_plan(tasks, parse_plan(tasks, text)), text)

    def test_bounds_of_numbers(self):
        for word, high in [("within", 200), ("later", 100), ("back", MOST)]:
            for number in (0, 1, 9, 10, 99, 100, high - 1, high):
                self.right((word, number, A), f"{word} {number} a")
        for tries in range(1, 21):
            self.right(("again", tries, 100 - tries, A), f"again {tries} {100 - tries} a")
        self.right(("watch", 200, A, B), "watch 200 a b")

    def test_names(self):
        tasks = {"task": sure(), "abcdefgh": sure(), "orders": sure()}
        for name in tasks:
            self.right(("task", name), name, tasks)
            self.assertEqual(format_plan(tasks, ("keep", ("task", name))), f"keep {name}")
        self.refused("a", 0, tasks)
        self.refused("order ( task a )", 3, tasks)
        self.refused("keep abcdefghi", 1, tasks)

    def test_size_and_span(self):
        tasks = large_tasks()
        for plan in (SIZE_400, SPAN_400):
            self.assertEqual(parse_plan(tasks, format_plan(tasks, plan)), plan)
        inner = "order ( " + "a " * 19 + ")"
        self.assertEqual(parse_plan(tasks, "again 20 0 " + inner), SIZE_401)
        self.assertEqual(parse_plan(tasks, "later 11 order ( " + "b " * 13 + ")"), SPAN_401)
        self.assertEqual(parse_plan(tasks, "again 20 100 order ( " + "b " * 20 + ")"), SIZE_421_AND_SPAN)
        deep = "again 20 100 " * 7 + "b"
        self.assertEqual(parse_plan(tasks, deep)[:3], ("again", 20, 100))
        for plan, number in [(SIZE_401, 401), (SPAN_401, 401), (SIZE_421_AND_SPAN, 421)]:
            with self.assertRaises(TooLarge) as caught:
                format_plan(tasks, plan)
            self.assertEqual(caught.exception.number, number)

    def test_wrong_texts(self):
        for text, index in WRONG:
            self.refused(text, index)

    def test_example(self):
        self.refused("order ( a d )", 3, {"a": (1, 1, [(1, "done", (1, 1))])})

    def test_each_place(self):
        for _, text in WRITTEN:
            words = text.split(" ")
            for index in range(len(words)):
                for word in ("x", "", "A", "-1", "1.", "05", "[", "order)", "aa"):
                    self.refused(" ".join(words[:index] + [word] + words[index + 1:]), index)
                    self.refused(" ".join(words[:index] + [word] + words[index:]), index)
                if index > 0:
                    self.refused(" ".join(words[:index]), index)
            for word in ("a", ")", "(", "order", "0", ""):
                self.refused(f"{text} {word}", len(words))

    def test_words_moved_about(self):
        chance = random.Random(3)
        for _, text in WRITTEN * 40:
            words = text.split(" ")
            for _ in range(chance.randrange(1, 3)):
                at = chance.randrange(len(words) + 1)
                other = chance.choice(words + ["a", "order", "(", ")", "keep", "watch", "1", "200"])
                words[at:at + chance.randrange(2)] = [other] if chance.random() < 0.8 else []
                words = words or ["a"]
            text = " ".join(words)
            index = wrong_index(FREE, text)
            if index is None:
                plan = parse_plan(FREE, text)
                self.assertTrue(is_plan(FREE, plan))
                if max(size(FREE, plan), span(FREE, plan)) <= 400:
                    self.assertEqual(format_plan(FREE, plan), text)
            else:
                self.refused(text, index)

    def test_levels(self):
        for word in ("keep", "easy", "within 3", "later 3", "back 3", "again 2 3"):
            words = len(word.split(" "))
            self.assertTrue(is_plan(FREE, parse_plan(FREE, f"{word} " * 7 + "a")))
            # Nothing but a ninth level could follow the eighth word.
            for text in (f"{word} " * 8 + "a", f"{word} " * 8 + "order ( )", f"{word} " * 8, f"{word} " * 700 + "a"):
                self.refused(text, 7 * words)
            self.right_levels(f"{word} " * 7, 7 * words)
        for word in ("order", "other", "both", "race"):
            self.assertTrue(is_plan(FREE, parse_plan(FREE, f"{word} ( " * 7 + "a" + " )" * 7)))
            # Without parts a list can stand at the eighth level; what a ninth one begins with is the fault.
            self.assertTrue(is_plan(FREE, parse_plan(FREE, f"{word} ( " * 8 + ") " * 7 + ")")))
            self.refused(f"{word} ( " * 8 + "a" + " )" * 8, 16)
            self.refused(f"{word} ( " * 400 + "a" + " )" * 400, 16)
            self.refused("a".join([f"{word} ( "] * 9), 2)
        self.refused("watch 1 a " * 8 + "b", 21)
        self.assertTrue(is_plan(FREE, parse_plan(FREE, "watch 1 a " * 7 + "b")))
        self.refused("watch 1 " * 300, 14)
        self.refused("keep " * 7 + "watch 1 a a", 7)

    def right_levels(self, beginning, words):
        for last in ("a", "order ( )", "race ( )"):
            self.assertTrue(is_plan(FREE, parse_plan(FREE, beginning + last)))
        for last in ("keep a", "watch 1 a a", "again 1 1 a", "x", "1", ""):
            self.refused(beginning + last, words)
        self.refused(beginning + "order ( a )", words + 2)

    def test_many_plans(self):
        most = "order ( " + "a " * 39 + ")"
        self.assertTrue(is_plan(FREE, parse_plan(FREE, most)))
        self.refused("order ( " + "a " * 40 + ")", 41)
        self.refused("order ( " + "a " * 500 + ")", 41)
        self.refused("order ( " + "a " * 39 + "x )", 41)
        # The last word is a plan itself and needs one or two more.
        self.assertTrue(is_plan(FREE, parse_plan(FREE, "order ( " + "a " * 37 + "keep a )")))
        self.assertTrue(is_plan(FREE, parse_plan(FREE, "order ( " + "a " * 36 + "watch 1 a a )")))
        self.assertTrue(is_plan(FREE, parse_plan(FREE, "order ( " + "a " * 38 + "order ( ) )")))
        for word in ("keep a", "easy a", "within 1 a", "again 1 1 a", "watch 1 a a"):
            self.refused("order ( " + "a " * 38 + f"{word} )", 40)
        self.refused("order ( " + "a " * 37 + "watch 1 a a )", 39)
        self.refused("order ( " + "a " * 37 + "keep keep a )", 40)
        self.refused("order ( " + "a " * 37 + "both ( a a ) )", 42)
        # A plan that is still missing is one of the 40: so nothing more fits into the side.
        self.assertTrue(is_plan(FREE, parse_plan(FREE, "watch 1 order ( " + "a " * 37 + ") a")))
        self.refused("watch 1 order ( " + "a " * 38 + ") a", 41)
        self.refused("watch 1 order ( " + "a " * 37 + ") keep a", 42)
        self.refused("watch 1 order ( " + "a " * 36 + "keep keep a ) a", 40)
        self.assertTrue(is_plan(FREE, parse_plan(FREE, "watch 1 order ( " + "a " * 36 + ") keep a")))

    def test_no_strings(self):
        for value in ANYTHING:
            if not isinstance(value, str):
                self.refused(value, None)
        for value in (b"a", ["a"], ("task", "a"), bytearray(b"a"), ["order", "(", ")"]):
            self.refused(value, None)
        for value in ANYTHING:
            if isinstance(value, str):
                self.refused(value, 1 if value == "order" else 0)

    def test_errors_in_their_order(self):
        check_first_errors(self, format_plan)
        for tasks in (None, {}, {"A": 1}, {"a": (1, 1, [])}):
            for text in ("a", "", None):
                with self.assertRaises(ValueError) as caught:
                    parse_plan(tasks, text)
                self.assertEqual(type(caught.exception).__name__, "InvalidTasks")
        self.assertEqual(parse_plan(text="keep a", tasks=FREE), ("keep", A))
        self.assertEqual(format_plan(plan=("keep", A), tasks=FREE), "keep a")

    def test_arguments_stay(self):
        tasks = tasks_example()
        plan = ("order", [A, ("both", [B])])
        before = copy.deepcopy((tasks, plan))
        self.assertEqual(format_plan(tasks, plan), "order ( a both ( b ) )")
        one = parse_plan(tasks, "order ( a both ( b ) )")
        self.assertEqual((tasks, plan), before)
        self.assertEqual(one, plan)
        one[1].append(C)
        one[1][1][1].append(C)
        self.assertEqual(parse_plan(tasks, "order ( a both ( b ) )"), plan)


# The parts of a right line, and what is wrong in their place.
RIGHT_LINE = ["b", "1", "3", "+1:3/4", "-3:1/4"]
WRONG_PARTS = [
    (0, ["", "B", "b1", "order", "watch", "abcdefghi", "b,", "-", "1", "'b'"]),
    (1, ["", "-", "-1", "+1", "01", "00", "1000000000001", "1.0", "x", "1_0", "None", "1" * 30]),
    (2, ["", "--", "-1", "+3", "03", "00", "1000000000001", "3.0", "x", "None", "+", "3" * 30]),
    (3, ["", "1:3/4", "+1:3/4:", "+:3/4", "+0:3/4", "+31:3/4", "+01:3/4", "+1:03/4", "+1:3/04", "+1:3", "+1", "+", "-",
         "+1:/4", "+1:3/", "+1:/", "+1/3:4", "+1:3/4/1", "+1:3/0", "+1:0/4", "+1:0/1", "+1:6/8", "+1:3/5", "+1:1/4",
         "+1:4/4", "+1:1/1", "+1:-3/4", "+1:3/-4", "+-1:3/4", "++1:3/4", "*1:3/4", "+1:3/4,", "+4:3/4", "+3:3/4 -3:1/4",
         "+1;3/4", "d1:3/4", "done1:3/4", "+1:0.75", "+1:3\\4", "+3:3/4 +1:1/4", "+1:3/4 +1:1/8", "+1:3/4 -2:1/4"]),
    (4, ["", "+1:1/4", "-0:1/4", "-31:1/4", "-1:1/3", "-3:1/5", "-3:2/8", "-3:1/4 -4:1/4", "3:1/4", "-1:1/4 x"]),
]
LINES = ["a 0 - +1:1/1", "b 1 3 +1:3/4 -3:1/4", "c 5 0 -2:1/1"]


class TasksTest(unittest.TestCase):
    def refused(self, text, line):
        with self.assertRaises(InvalidLine, msg=repr(text)) as caught:
            parse_tasks(text)
        self.assertEqual(caught.exception.line, line, text)

    def test_there_and_back(self):
        tasks = {"a": (0, None, [(1, "done", (1, 1))]), "b": (1, 3, [(1, "done", (3, 4)), (3, "failed", (1, 4))]),
                 "c": (5, 0, [(2, "failed", (1, 1))])}
        text = "\n".join(LINES)
        self.assertEqual(format_tasks(tasks), text)
        self.assertEqual(parse_tasks(text), tasks)
        self.assertEqual(list(parse_tasks(text)), ["a", "b", "c"])
        for order in ("cba", "bac", "cab"):
            self.assertEqual(format_tasks({name: tasks[name] for name in order}), text)
        for line, name in zip(LINES, "abc"):
            self.assertEqual(parse_tasks(line), {name: tasks[name]})
            self.assertEqual(format_tasks({name: tasks[name]}), line)

    def test_bounds(self):
        ends = [(29, "done", (1, 1000)), (29, "failed", (1, 1000)), (30, "done", (997, 1000)), (30, "failed", (1, 1000))]
        many = [(tick, "failed", (1, 8)) for tick in (1, 2, 9, 10, 11, 20, 21, 22)]
        tasks = {"zzzzzzzz": (MOST, MOST, ends), "task": (10, 100, many)}
        text = ("task 10 100 -1:1/8 -2:1/8 -9:1/8 -10:1/8 -11:1/8 -20:1/8 -21:1/8 -22:1/8\n"
                "zzzzzzzz 1000000000000 1000000000000 +29:1/1000 -29:1/1000 +30:997/1000 -30:1/1000")
        self.assertEqual(format_tasks(tasks), text)
        self.assertEqual(parse_tasks(text), tasks)
        self.assertEqual(list(parse_tasks(text)), ["task", "zzzzzzzz"])
        self.refused(text.replace("-22", "-22:1/8 -23"), 0)
        self.refused(text.replace("1/1000", "1/1001"), 1)

    def test_samples(self):
        for tasks, _ in samples(2, 100, 10 ** 9):
            text = format_tasks(tasks)
            self.assertEqual(parse_tasks(text), tasks)
            self.assertTrue(is_tasks(parse_tasks(text)))

    def test_twelve_lines(self):
        lines = [f"{name} 1 1 +1:1/1" for name in "abcdefghijklm"]
        self.assertEqual(sorted(parse_tasks("\n".join(lines[:12]))), list("abcdefghijkl"))
        self.refused("\n".join(lines), 12)
        self.refused("\n".join(lines) + "\nx", 12)
        self.refused("\n".join(lines[:12] + [""]), 12)
        self.refused("\n".join(lines[:11] + ["x"] + lines[12:]), 11)

    def test_wrong_parts_at_every_line(self):
        for index, words in WRONG_PARTS:
            for word in words:
                self.refused_everywhere(" ".join(RIGHT_LINE[:index] + [word] + RIGHT_LINE[index + 1:]))

    def refused_everywhere(self, line):
        self.refused(line, 0)
        self.refused(f"{line}\n{LINES[2]}", 0)
        self.refused(f"{LINES[0]}\n{line}", 1)
        self.refused(f"{LINES[0]}\n{line}\n{LINES[2]}", 1)
        self.refused(f"{LINES[0]}\n{line}\n{line}", 1)

    def test_wrong_lines(self):
        self.assertEqual(sorted(parse_tasks("a 0 - +1:1/1\nb 1 3 +1:3/4 -3:1/4")), ["a", "b"])
        right = LINES[1]
        for line in ("", " ", f" {right}", f"{right} ", right.replace(" ", "  ", 1), right.replace(" ", "\t"), "b", "b 1",
                     "b 1 3", "b 1 3 ", "b 1 +1:1/1", "b 1 3 x", right + " x", right + " +4:1/4", f"{right} {right}",
                     "b 1 3 +1:1/1 -1:1/1", "b 1 3 -1:1/2 +1:1/2", "b 1 3 +2:1/2 +1:1/2", "b 1 3 +1:1/2 +1:1/2",
                     "b 1 3 +1:1/2", "b 1 3 +1:1/2 +2:1/3", "b 1 3 4 +1:1/1", "1 3 +1:1/1", "b +1:1/1 1 3", "x b 1 3 +1:1/1",
                     "b 1 - 3 +1:1/1", "b 1 3 " + " ".join(f"+{tick}:1/9" for tick in range(1, 10))):
            self.refused_everywhere(line)

    def test_order_of_lines(self):
        one, two, three = LINES
        for lines, line in [([two, one], 1), ([one, one], 1), ([one, three, two], 2), ([one, two, two], 2),
                            ([three, one, two], 1), ([one, two, one, three], 2), ([two, three, one], 2)]:
            self.refused("\n".join(lines), line)
        self.refused("\n".join(["ab 1 1 +1:1/1", "a 1 1 +1:1/1"]), 1)
        self.assertEqual(list(parse_tasks("a 1 1 +1:1/1\nab 1 1 +1:1/1\nb 1 1 +1:1/1")), ["a", "ab", "b"])

    def test_empty_lines(self):
        text = "\n".join(LINES)
        for wrong, line in [("", 0), ("\n", 0), (f"\n{text}", 0), (f"{text}\n", 3), (text.replace("\n", "\n\n"), 1),
                            (f"{text}\n\n", 3), (f"{LINES[0]}\n\n{LINES[1]}", 1), (f"{LINES[0]}\n", 1)]:
            self.refused(wrong, line)

    def test_no_strings(self):
        for value in ANYTHING + [LINES, tuple(LINES), LINES[0].encode(), tasks_example()]:
            self.refused(value, 0 if isinstance(value, str) else None)

    def test_format_takes_tasks_only(self):
        for value, name in [(None, None), ({}, None), ({"a": 1}, "a"), ({"b": 1, "a": sure(), "c": 2}, "b")]:
            with self.assertRaises(ValueError) as caught:
                format_tasks(value)
            self.assertEqual(type(caught.exception).__name__, "InvalidTasks")
            self.assertEqual(caught.exception.name, name)

    def test_arguments(self):
        tasks = tasks_example()
        text = format_tasks(tasks=tasks)
        self.assertEqual(tasks, tasks_example())
        one = parse_tasks(text=text)
        self.assertEqual(one, tasks)
        one["a"][2].clear()
        del one["b"]
        self.assertEqual(parse_tasks(text), tasks)
        self.assertEqual(tasks, tasks_example())


if __name__ == "__main__":
    unittest.main()
