"""Accounts: what a course costs, and what is undone, kept, or stands in it."""

from prepaidplans.courses import run_with


def account(tasks, plan, course):
    """Return the tuple (paid, returned, lost) of a course."""
    book = _book_of(tasks, plan, course)
    return (book.paid, book.returned, book.count_lost())


def money_of(tasks, plan, course):
    """Return the money of a course."""
    book = _book_of(tasks, plan, course)
    return book.paid - book.returned


def undone(tasks, plan, course):
    """Return the list of (tick, path) of everything that is undone, in this order."""
    book = _book_of(tasks, plan, course)
    # At one tick descending by end, then by path; sorting by tick leaves that as it is.
    latest_first = sorted(book.undoings, key=lambda one: (one[1], one[2]), reverse=True)
    return [(tick, path) for tick, _, path, _ in sorted(latest_first, key=lambda one: one[0])]


def standing(tasks, plan, course):
    """Return the ascending list of the paths of what stands at the end."""
    book = _book_of(tasks, plan, course)
    return sorted([path for _, path, _ in book.stands])


def kept(tasks, plan, course):
    """Return the ascending list of the paths of what is kept, each once."""
    book = _book_of(tasks, plan, course)
    return sorted({path for _, path, _ in book.keepings})


class Book:
    """What becomes of everything in a run that stands: things (end, path, undo), undo None if it cannot be undone."""

    def __init__(self, tasks, run):
        self.tasks = tasks
        self.paid = 0
        self.returned = 0
        self.undoings = []
        self.keepings = []
        self.stands = self.settle(run)
        self.give_back(self.stands)

    def settle(self, run):
        """Return the list of the things that stand in a run when it has ended, all else behind them settled."""
        things = self.settle_parts(run)
        for side in run.sides:
            self.keep(self.settle(side))
        if run.plan[0] == "task":
            things = self.settle_task(run)
        if run.how != "done":
            self.undo(things, run.ended)
            return []
        if run.plan[0] == "keep":
            self.keep(things)
            return []
        if run.plan[0] == "back":
            self.give_back(things)
            self.paid += run.plan[1]
            return [(run.ended, run.path, run.plan[1])]
        return things

    def settle_parts(self, run):
        """Return the list of the things that stand in the parts of a run; those of the losers of a race are undone."""
        things = []
        lost = False
        for part in run.parts:
            inner = self.settle(part)
            if lost:
                self.undo(inner, run.ended)
            else:
                things.extend(inner)
            lost = lost or (run.plan[0] == "race" and part.how == "done")
        return things

    def settle_task(self, run):
        """Return the list of the task, if it is done, with what it costs paid."""
        cost, undo, _ = self.tasks[run.plan[1]]
        self.paid += cost
        if run.how != "done":
            return []
        self.paid += undo or 0
        return [(run.ended, run.path, undo)]

    def undo(self, things, tick):
        """Undo things at this tick."""
        self.undoings.extend([(tick, end, path, undo) for end, path, undo in things])

    def keep(self, things):
        """Keep things."""
        self.keepings.extend(things)
        self.give_back(things)

    def give_back(self, things):
        """Return what was paid for undoing these things."""
        self.returned += sum([undo or 0 for _, _, undo in things])

    def count_lost(self):
        """Return how many tasks are lost."""
        return len([undo for _, _, _, undo in self.undoings if undo is None])


def _book_of(tasks, plan, course):
    return Book(tasks, run_with(tasks, plan, course))
