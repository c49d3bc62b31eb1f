"""Texts: plans as words with single spaces between, tasks as lines."""

from prepaidplans.checks import is_between
from prepaidplans.errors import InvalidLine, InvalidText
from prepaidplans.plans import LIST_WORDS, MOST_LEVELS, MOST_PLANS, NUMBERS, check_plan, steps_of
from prepaidplans.tasks import MOST_TASKS, check_tasks, is_known, is_name, is_task

# No number of a plan or a task has more digits: the greatest ones are amounts of money.
MOST_DIGITS = 13

NO_UNDO = "-"
SIGNS = {"done": "+", "failed": "-"}
WORDS = {"+": "done", "-": "failed"}


def format_plan(tasks, plan):
    """Return the text of a plan."""
    check_plan(tasks, plan)
    return " ".join(_words_of(plan))


def parse_plan(tasks, text):
    """Return the plan with this text, whatever its size and span."""
    check_tasks(tasks)
    if not isinstance(text, str):
        raise InvalidText(None)
    reader = Reader(tasks, text.split(" "))
    plan = reader.read_plan(reader.next_word(), 1)
    reader.check_end()
    return plan


def format_tasks(tasks):
    """Return the text of tasks."""
    check_tasks(tasks)
    return "\n".join([_line_of(name, tasks[name]) for name in sorted(tasks)])


def parse_tasks(text):
    """Return the tasks with this text."""
    if not isinstance(text, str):
        raise InvalidLine(None)
    tasks = {}
    last = ""
    for number, line in enumerate(text.split("\n")):
        words = line.split(" ")
        name = words[0]
        task = _task_of(words[1:])
        # Lines that are right up to here are the text of tasks: so only this one can be wrong.
        if number >= MOST_TASKS or not is_name(name) or name <= last or not is_task(task):
            raise InvalidLine(number)
        tasks[name] = task
        last = name
    return tasks


def number_of(word):
    """Return the number that is written as this word, or None."""
    if not 1 <= len(word) <= MOST_DIGITS or not all(["0" <= sign <= "9" for sign in word]):
        return None
    if word[0] == "0" and word != "0":
        return None
    return int(word)


class Reader:
    """Reads a plan word by word, and raises InvalidText at the first word with which no text begins."""

    def __init__(self, tasks, words):
        self.tasks = tasks
        self.words = words
        self.place = 0
        # How many plans a text that begins with the words so far has at least: each missing plan can be a task.
        self.needed = 1

    def next_word(self):
        """Return the next word."""
        if self.place == len(self.words):
            raise InvalidText(self.place)
        self.place += 1
        return self.words[self.place - 1]

    def check_end(self):
        """Raise InvalidText unless this was the last word."""
        if self.place < len(self.words):
            raise InvalidText(self.place)

    def read_plan(self, word, level):
        """Return the plan that begins with this word, the last one that was read."""
        if is_known(self.tasks, word):
            return ("task", word)
        if word in LIST_WORDS:
            return (word, self.read_parts(level))
        if word not in NUMBERS:
            raise InvalidText(self.place - 1)
        plans = 2 if word == "watch" else 1
        self.need(plans, level + 1)
        numbers = [self.read_number(low, high) for low, high in NUMBERS[word]]
        inner = [self.read_plan(self.next_word(), level + 1) for _ in range(plans)]
        return (word, *numbers, *inner)

    def read_parts(self, level):
        """Return the list of the plans between parentheses."""
        if self.next_word() != "(":
            raise InvalidText(self.place - 1)
        parts = []
        word = self.next_word()
        while word != ")":
            self.need(1, level + 1)
            parts.append(self.read_plan(word, level + 1))
            word = self.next_word()
        return parts

    def read_number(self, low, high):
        """Return the number that the next word is."""
        number = number_of(self.next_word())
        if not is_between(number, low, high):
            raise InvalidText(self.place - 1)
        return number

    def need(self, plans, level):
        """Raise InvalidText if so many more plans, at this level, are too many or too deep."""
        self.needed += plans
        if self.needed > MOST_PLANS or level > MOST_LEVELS:
            raise InvalidText(self.place - 1)


def _words_of(plan):
    word = plan[0]
    if word == "task":
        return [plan[1]]
    inner = [one for _, part in steps_of(plan) for one in _words_of(part)]
    if word in LIST_WORDS:
        return [word, "(", *inner, ")"]
    numbers = [str(number) for number in plan[1:1 + len(NUMBERS[word])]]
    return [word, *numbers, *inner]


def _line_of(name, task):
    cost, undo, ends = task
    written = [f"{SIGNS[word]}{tick}:{top}/{bottom}" for tick, word, (top, bottom) in ends]
    return " ".join([name, str(cost), NO_UNDO if undo is None else str(undo), *written])


def _task_of(words):
    # None where something is no number: is_task refuses it there, but for the undo.
    if len(words) < 2:
        return None
    cost = number_of(words[0])
    undo = number_of(words[1])
    if undo is None and words[1] != NO_UNDO:
        return None
    return (cost, undo, [_end_of(word) for word in words[2:]])


def _end_of(word):
    tick, _, share = word[1:].partition(":")
    top, _, bottom = share.partition("/")
    return (number_of(tick), WORDS.get(word[:1]), (number_of(top), number_of(bottom)))
