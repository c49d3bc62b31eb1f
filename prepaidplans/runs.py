"""Runs: what a plan does if the ends of its tasks are told, as a tree of the plans that begin."""

from prepaidplans.plans import all_steps_of, steps_of

# The end of what has none yet: later than every tick, for integers have at most 60 digits.
FOREVER = 10 ** 61

OPEN = "open"


class Run:
    """The run of one plan: from begin on; how it is done, failed or stopped at the tick ended, or open."""

    def __init__(self, plan, path, begin):
        self.plan = plan
        self.path = path
        self.begin = begin
        self.how = "done"
        self.ended = begin
        # The runs of what begins in it.
        self.parts = []
        self.sides = []

    def stop_at(self, tick):
        """Stop what has not ended at this tick; a side that has begun goes on."""
        if self.ended <= tick:
            return
        begun = [part for part in self.parts if part.begin <= tick]
        for part in begun:
            part.stop_at(tick)
        self.parts = begun
        self.sides = [side for side in self.sides if side.begin <= tick]
        self.how = "stopped"
        self.ended = tick

    def leave_open(self):
        """Let it end never: nothing is told of what it waits for."""
        self.how = OPEN
        self.ended = FOREVER

    def all_sides(self):
        """Return the list of the sides that begin in it, and in these."""
        inner = [side for run in self.parts + self.sides for side in run.all_sides()]
        return self.sides + inner


class Told:
    """What is told of a run: the fates (ticks, word) of tasks by their paths, and how far time has gone.

    Tasks without a fate stay open. Limits, stops, sides and delays that are due behind the tick last do not happen.
    """

    def __init__(self, fates, last):
        self.fates = fates
        self.last = last


def run_of(plan, fates, last):
    """Return the run of a plan with these fates, in which what is due behind this tick does not happen."""
    return _play(plan, (), 0, Told(fates, last))


def with_fate(fates, path, fate):
    """Return fates in which the task at this path has this one."""
    changed = {one: fates[one] for one in fates}
    changed[path] = fate
    return changed


def course_in(run):
    """Return the list of (path, begin, end, word) of the tasks of a run, by ascending begin, then path.

    Open tasks have no end.
    """
    return sorted(_tasks_in(run), key=lambda entry: (entry[1], entry[0]))


def _play(plan, path, begin, told):
    run = Run(plan, path, begin)
    word = plan[0]
    if word == "task":
        _play_task(run, told)
    elif word in ("order", "other", "again"):
        _play_in_turn(run, told)
    elif word in ("both", "race"):
        _play_together(run, told)
    else:
        _play_one(run, told)
    return run


def _play_task(run, told):
    if run.path not in told.fates:
        run.leave_open()
        return
    ticks, run.how = told.fates[run.path]
    run.ended = run.begin + ticks


def _play_in_turn(run, told):
    wait = run.plan[2] if run.plan[0] == "again" else 0
    # Behind a part that ends with this word the next one begins; without parts the plan ends so.
    run.how = "done" if run.plan[0] == "order" else "failed"
    onward = run.how
    for step, part in all_steps_of(run.plan):
        delay = wait if run.parts else 0
        begin = run.ended + delay
        if not _is_over(delay, begin, told):
            run.leave_open()
            return
        one = _play(part, run.path + step, begin, told)
        run.parts.append(one)
        run.how = one.how
        run.ended = one.ended
        if one.how != onward:
            return


def _play_together(run, told):
    parts = [_play(part, run.path + step, run.begin, told) for step, part in steps_of(run.plan)]
    first, last = ("failed", "done") if run.plan[0] == "both" else ("done", "failed")
    deciding = [part.ended for part in parts if part.how == first]
    if deciding:
        run.how = first
        run.ended = min(deciding)
    elif [part for part in parts if part.how == OPEN]:
        run.leave_open()
    else:
        run.how = last
        run.ended = max([part.ended for part in parts], default=run.begin)
    if run.ended <= told.last:
        for part in parts:
            part.stop_at(run.ended)
    run.parts = parts


def _play_one(run, told):
    word = run.plan[0]
    step, part = steps_of(run.plan)[-1]
    delay = run.plan[1] if word == "later" else 0
    begin = run.begin + delay
    if not _is_over(delay, begin, told):
        run.leave_open()
        return
    one = _play(part, run.path + step, begin, told)
    run.parts = [one]
    run.how = "done" if word == "easy" and one.how != OPEN else one.how
    run.ended = one.ended
    if word in ("within", "watch"):
        _reach(run, one, begin + run.plan[1], told)


def _is_over(delay, tick, told):
    """Return whether a delay that ends at this tick is over; one of 0 ticks takes no time at all."""
    return delay == 0 or tick <= told.last


def _reach(run, one, tick, told):
    """Do what a within or a watch does at its tick, unless its part, the one, has ended."""
    if one.ended <= tick or tick > told.last:
        return
    if run.plan[0] == "watch":
        run.sides = [_play(run.plan[2], run.path + (0,), tick, told)]
        return
    one.stop_at(tick)
    run.how = "failed"
    run.ended = tick


def _tasks_in(run):
    if run.plan[0] == "task":
        return [(run.path, run.begin, None if run.how == OPEN else run.ended, run.how)]
    return [entry for inner in run.parts + run.sides for entry in _tasks_in(inner)]
