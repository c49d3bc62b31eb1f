"""Runs: what a plan does if the fates of its tasks are told, as a tree of the plans that begin."""

from prepaidplans.plans import all_steps_of, steps_of


class Run:
    """The run of one plan: from begin on, until it is done, failed or stopped at the tick end."""

    def __init__(self, plan, path, begin):
        self.plan = plan
        self.path = path
        self.begin = begin
        self.word = "done"
        self.end = begin
        # The runs of what begins in it.
        self.parts = []
        self.sides = []

    def stop_at(self, tick):
        """Stop what has not ended at this tick; a side that has begun goes on."""
        if self.end <= tick:
            return
        begun = [part for part in self.parts if part.begin <= tick]
        for part in begun:
            part.stop_at(tick)
        self.parts = begun
        self.sides = [side for side in self.sides if side.begin <= tick]
        self.word = "stopped"
        self.end = tick


def play(plan, path, begin, fates):
    """Return the run of the plan at this path that begins at this tick; fates has (tick, word) for each task path."""
    run = Run(plan, path, begin)
    word = plan[0]
    if word == "task":
        ticks, run.word = fates[path]
        run.end = begin + ticks
    elif word in ("order", "other", "again"):
        _play_in_turn(run, fates)
    elif word in ("both", "race"):
        _play_together(run, fates)
    else:
        _play_one(run, fates)
    return run


def course_in(run):
    """Return the list of (path, begin, end, word) of the tasks of a run, by ascending begin, then path."""
    return sorted(_tasks_in(run), key=lambda entry: (entry[1], entry[0]))


def _play_in_turn(run, fates):
    wait = run.plan[2] if run.plan[0] == "again" else 0
    # Behind a part that ends with this word the next one begins; without parts the plan ends so.
    run.word = "done" if run.plan[0] == "order" else "failed"
    onward = run.word
    for step, part in all_steps_of(run.plan):
        begin = run.end + wait if run.parts else run.begin
        one = play(part, run.path + step, begin, fates)
        run.parts.append(one)
        run.word = one.word
        run.end = one.end
        if one.word != onward:
            return


def _play_together(run, fates):
    parts = [play(part, run.path + step, run.begin, fates) for step, part in steps_of(run.plan)]
    first, last = ("failed", "done") if run.plan[0] == "both" else ("done", "failed")
    deciding = [part.end for part in parts if part.word == first]
    if deciding:
        run.word = first
        run.end = min(deciding)
    else:
        run.word = last
        run.end = max([part.end for part in parts], default=run.begin)
    for part in parts:
        part.stop_at(run.end)
    run.parts = parts


def _play_one(run, fates):
    word = run.plan[0]
    step, part = steps_of(run.plan)[-1]
    begin = run.begin + run.plan[1] if word == "later" else run.begin
    one = play(part, run.path + step, begin, fates)
    run.parts = [one]
    run.word = "done" if word == "easy" else one.word
    run.end = one.end
    if word == "within":
        _limit(run, one, begin + run.plan[1])
    if word == "watch" and one.end > begin + run.plan[1]:
        run.sides = [play(run.plan[2], run.path + (0,), begin + run.plan[1], fates)]


def _limit(run, one, tick):
    if one.end > tick:
        one.stop_at(tick)
        run.word = "failed"
        run.end = tick


def _tasks_in(run):
    if run.plan[0] == "task":
        return [(run.path, run.begin, run.end, run.word)]
    return [entry for inner in run.parts + run.sides for entry in _tasks_in(inner)]
