"""Plays plans tick by tick, without the package, to compare with it; no tests itself.

Here everything happens as [9] to [16] tell it: at each tick what can happen happens, from inside to outside, until
nothing more does. Means are sums over all fates.
"""

import itertools
from fractions import Fraction

IN_TURN = ("order", "other", "again")


def inner_plans(plan):
    """Return the list of (step, part) of a plan, with all tries."""
    word = plan[0]
    if word == "task":
        return []
    if word in ("order", "other", "both", "race"):
        return [((index,), part) for index, part in enumerate(plan[1])]
    if word == "again":
        return [((index,), plan[3]) for index in range(plan[1])]
    if word == "watch":
        return [((0,), plan[2]), ((1,), plan[3])]
    return [((), plan[-1])]


def paths_of(plan, path=()):
    """Return a dict from the task paths to their names."""
    if plan[0] == "task":
        return {path: plan[1]}
    found = {}
    for step, part in inner_plans(plan):
        found.update(paths_of(part, path + step))
    return found


class Node:
    """One plan within the plan, begun at a tick."""

    def __init__(self, plan, path, began, outer):
        self.plan = plan
        self.path = path
        self.began = began
        # What is undone, kept or covered with a node is what stands in nodes that have it among their holders.
        self.holders = ([] if outer is None else outer.holders) + [self]
        self.children = []
        self.word = None
        self.ended = None
        self.next_at = began


class World:
    """One run of a plan with these fates."""

    def __init__(self, tasks, plan, fates):
        self.tasks = tasks
        self.fates = fates
        self.now = 0
        self.begun = []
        self.stands = []
        self.undone = []
        self.kept = []
        self.covered = []
        self.payments = []
        self.returned = []
        self.backs = 0
        self.side_begins = {}
        self.sides = []
        self.root = self.begin(plan, (), None)
        self.run()

    def run(self):
        self.advance(self.root)
        while self.root.word is None or any(side.word is None for side in self.sides):
            self.now += 1
            for root in [self.root] + list(self.sides):
                if root.word is None:
                    self.advance(root)
        # Descending by end, then by path; and so at each tick.
        self.undone.sort(key=lambda one: one[1:3], reverse=True)
        self.undone.sort(key=lambda one: one[0])

    def begin(self, plan, path, outer):
        node = Node(plan, path, self.now, outer)
        if plan[0] == "task":
            self.begun.append(node)
            self.pay(node, self.tasks[plan[1]][0], 0)
        return node

    def pay(self, node, money, lost):
        self.payments.append((self.now, node.holders[0], money, lost))

    def advance(self, node):
        if node.word is not None:
            return
        word = node.plan[0]
        if word == "task":
            ticks, how = self.fates[node.path]
            if self.now == node.began + ticks:
                self.finish(node, how)
        elif word in IN_TURN:
            self.advance_in_turn(node)
        elif word in ("both", "race"):
            self.advance_together(node)
        else:
            self.advance_one(node)

    def advance_in_turn(self, node):
        onward = "done" if node.plan[0] == "order" else "failed"
        wait = node.plan[2] if node.plan[0] == "again" else 0
        inner = inner_plans(node.plan)
        while node.word is None:
            if not inner:
                self.finish(node, onward)
                return
            if not node.children or node.children[-1].word is not None:
                if self.now < node.next_at:
                    return
                step, part = inner[len(node.children)]
                node.children.append(self.begin(part, node.path + step, node))
            last = node.children[-1]
            self.advance(last)
            if last.word is None:
                return
            if last.word != onward or len(node.children) == len(inner):
                self.finish(node, last.word)
            node.next_at = self.now + wait

    def advance_together(self, node):
        if self.now == node.began:
            node.children = [self.begin(part, node.path + step, node) for step, part in inner_plans(node.plan)]
        for child in node.children:
            self.advance(child)
        words = [child.word for child in node.children]
        first, last = ("failed", "done") if node.plan[0] == "both" else ("done", "failed")
        if first in words:
            self.finish(node, first)
        elif None not in words:
            self.finish(node, last)

    def advance_one(self, node):
        word = node.plan[0]
        if not node.children:
            if word == "later" and self.now < node.began + node.plan[1]:
                return
            step, part = inner_plans(node.plan)[-1]
            node.children.append(self.begin(part, node.path + step, node))
        child = node.children[0]
        self.advance(child)
        if child.word is not None:
            self.finish(node, "done" if word == "easy" else child.word)
        elif word == "within" and self.now == node.began + node.plan[1]:
            self.finish(node, "failed")
        elif word == "watch" and self.now == node.began + node.plan[1]:
            side = self.begin(node.plan[2], node.path + (0,), None)
            self.sides.append(side)
            # The money of a side, and of sides in it, counts where the outermost one begins.
            outer = node.holders[0]
            self.side_begins[side] = self.side_begins.get(outer, self.now)
            self.advance(side)

    def finish(self, node, word):
        node.word = word
        node.ended = self.now
        for child in node.children:
            self.stop(child)
        if word == "failed":
            self.undo(node)
            return
        if node.plan[0] == "task":
            undo = self.tasks[node.plan[1]][1]
            self.pay(node, undo or 0, 1 if undo is None else 0)
            self.stands.append((self.now, node.path, undo, node))
        if node.plan[0] == "race":
            done = [child for child in node.children if child.word == "done"]
            for child in node.children:
                if child is not done[0]:
                    self.undo(child)
        if node.plan[0] == "keep":
            self.release(node, self.kept)
        if node.plan[0] == "back":
            self.release(node, self.covered)
            self.backs += node.plan[1]
            self.pay(node, node.plan[1], 0)
            self.stands.append((self.now, node.path, node.plan[1], node))
        if node in self.sides:
            self.release(node, self.kept)
        if node is self.root:
            self.returned = [(self.now, path, undo) for _, path, undo, inner in self.stands if node in inner.holders]

    def stop(self, node):
        if node.word is None:
            node.word = "stopped"
            node.ended = self.now
            for child in node.children:
                self.stop(child)
            self.undo(node)

    def split(self, node):
        """Take what stands in a node out of what stands, and return it."""
        inside = [one for one in self.stands if node in one[3].holders]
        self.stands = [one for one in self.stands if node not in one[3].holders]
        return inside

    def undo(self, node):
        self.undone.extend([(self.now, end, path, undo, inner) for end, path, undo, inner in self.split(node)])

    def release(self, node, where):
        for end, path, undo, inner in self.split(node):
            where.append((path, undo))
            self.pay(node, -(undo or 0), -1 if undo is None else 0)

    def course(self):
        entries = [(node.path, node.began, node.ended, node.word) for node in self.begun]
        return sorted(entries, key=lambda entry: (entry[1], entry[0]))

    def costs(self):
        return sum(self.tasks[node.plan[1]][0] for node in self.begun)

    def money(self):
        """Return the money as [14] tells it, without anything prepaid."""
        return self.costs() + sum(one[3] or 0 for one in self.undone)

    def lost(self):
        return sum(one[3] is None for one in self.undone)

    def account(self):
        """Return (paid, returned, lost) as [15] tells it."""
        undos = [self.tasks[node.plan[1]][1] or 0 for node in self.begun if node.word == "done"]
        back = [undo or 0 for _, undo in self.kept + self.covered] + [undo or 0 for _, _, undo in self.returned]
        return (self.costs() + sum(undos) + self.backs, sum(back), self.lost())


def all_fates(tasks, plan):
    """Return the list of (fates, share) of all fates of a plan."""
    names = paths_of(plan)
    paths = list(names)
    found = []
    for ends in itertools.product(*[tasks[names[path]][2] for path in paths]):
        share = Fraction(1)
        for _, _, (top, bottom) in ends:
            share *= Fraction(top, bottom)
        found.append(({path: end[:2] for path, end in zip(paths, ends)}, share))
    return found


def pair(number):
    """Return a number as the package tells fractions."""
    number = Fraction(number)
    return (number.numerator, number.denominator)


class Means:
    """All that is told of a plan, as sums over all fates."""

    def __init__(self, tasks, plan):
        self.worlds = [(World(tasks, plan, fates), share) for fates, share in all_fates(tasks, plan)]
        self.courses = {}
        self.rows = [{}, {}, {}, {}]
        self.chance = self.mean_end = self.money = self.lost = Fraction(0)
        names = sorted(set(paths_of(plan).values()))
        self.begins = {name: Fraction(0) for name in names}
        self.undos = {name: Fraction(0) for name in names}
        for world, share in self.worlds:
            self.add(world, share)

    def add(self, world, share):
        course = tuple(world.course())
        self.courses[course] = self.courses.get(course, 0) + share
        done = world.root.word == "done"
        self.put(0 if done else 1, world.root.ended, share)
        self.chance += share * done
        self.mean_end += share * world.root.ended
        self.money += share * world.money()
        self.lost += share * world.lost()
        for node in world.begun:
            self.begins[node.plan[1]] += share
        for _, _, _, _, node in world.undone:
            if node.plan[0] == "task":
                self.undos[node.plan[1]] += share
        for tick, root, money, lost in world.payments:
            self.put(2, world.side_begins.get(root, tick), share * money, share * lost)
        for tick, _, undo in world.returned:
            self.put(3, tick, share * (undo or 0), share * (undo is None))

    def put(self, index, tick, *amounts):
        old = self.rows[index].get(tick, (0,) * len(amounts))
        self.rows[index][tick] = tuple(one + other for one, other in zip(old, amounts))

    def told_rows(self):
        return tuple(
            [(tick, *[pair(one) for one in row[tick]]) for tick in sorted(row) if any(row[tick])] for row in self.rows
        )
