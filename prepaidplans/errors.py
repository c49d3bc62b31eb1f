"""The errors of the package: all are PlanErrors, and so ValueErrors."""


class PlanError(ValueError):
    """What every error of the package is."""


class InvalidFraction(PlanError):
    """A value is not a fraction, or would be divided by 0."""


class InvalidRow(PlanError):
    """A value is not a row, or no pairs for one."""


class InvalidTick(PlanError):
    """A value is not a tick."""


class InvalidName(PlanError):
    """A value is not a name, or not one that can be used here."""


class InvalidTask(PlanError):
    """A value is not a task."""


class InvalidPath(PlanError):
    """A value is not the path of a task that can be used here."""


class InvalidCourse(PlanError):
    """A value is not a course of the plan."""


class InvalidWeights(PlanError):
    """A value is not a dict of weights."""


class InvalidKind(PlanError):
    """A value is not one of the kinds that can be asked for."""


class InvalidArrows(PlanError):
    """A value is not a list of arrows, or its arrows lead round."""


class InvalidChains(PlanError):
    """A value is not a list of chains."""


class InvalidShare(PlanError):
    """A value is not a share."""


class InvalidNames(PlanError):
    """A value is not a list of names of tasks."""


class InvalidNumber(PlanError):
    """A value is not an integer within its bounds."""


class InvalidBeginning(PlanError):
    """A value is not a beginning of the plan."""


class InvalidWord(PlanError):
    """A task has no such end at this tick."""


class InvalidEnd(PlanError):
    """A value is not a tuple of a path and a word."""


class NothingRuns(PlanError):
    """An engine has nothing ahead of it."""


class NothingToUndo(PlanError):
    """An engine has no call that could be reverted."""


class NotSafe(PlanError):
    """Some course of the plan loses a task."""


class InvalidTasks(PlanError):
    """A value is not tasks; name is the least wrong one, or None."""

    def __init__(self, name):
        super().__init__(f"these are not tasks; the first wrong name: {name!r}")
        self.name = name


class InvalidPlan(PlanError):
    """A value is not a plan; path leads to its first fault."""

    def __init__(self, path):
        super().__init__(f"this is not a plan; the path of its first fault: {path!r}")
        self.path = path


class TooLarge(PlanError):
    """The size of a plan, or its span, is too large: number."""

    def __init__(self, number):
        super().__init__(f"the plan is too large: {number!r}")
        self.number = number


class InvalidText(PlanError):
    """A value is not the text of a plan; index is that of the first wrong word, or None."""

    def __init__(self, index):
        super().__init__(f"this is not the text of a plan; the first wrong word: {index!r}")
        self.index = index


class InvalidLine(PlanError):
    """A value is not the text of tasks; line is the first wrong one, or None."""

    def __init__(self, line):
        super().__init__(f"this is not the text of tasks; the first wrong line: {line!r}")
        self.line = line


class InvalidFates(PlanError):
    """A value is not fates; path is that of the first wrong one, or None."""

    def __init__(self, path):
        super().__init__(f"these are not fates of the plan; the first wrong path: {path!r}")
        self.path = path


class InvalidParts(PlanError):
    """A value is not a list of parts; index is that of the first wrong one, or None."""

    def __init__(self, index):
        super().__init__(f"these are not parts; the first wrong index: {index!r}")
        self.index = index


class NotRisky(PlanError):
    """The risk of the part with this index is 0 or 1."""

    def __init__(self, index):
        super().__init__(f"a part has no risk, or no chance; its index: {index!r}")
        self.index = index


class NeverDone(PlanError):
    """The task with this index is never done."""

    def __init__(self, index):
        super().__init__(f"a task is never done; its index: {index!r}")
        self.index = index


class TooMany(PlanError):
    """There are more than limit."""

    def __init__(self, limit):
        super().__init__(f"there are too many; the limit: {limit!r}")
        self.limit = limit


class Overdue(PlanError):
    """The running task at this path has no later end."""

    def __init__(self, path):
        super().__init__(f"a running task has no later end; its path: {path!r}")
        self.path = path
