"""Plans at random, always the same ones; no tests themselves."""

import random

from oracle import paths_of
from prepaidplans.plans import is_plan, size, span

SHARES = {
    1: [[(1, 1)]],
    2: [[(1, 2), (1, 2)], [(1, 3), (2, 3)], [(3, 4), (1, 4)]],
    3: [[(1, 2), (1, 3), (1, 6)], [(1, 4), (1, 4), (1, 2)]],
}
PLACES = [(tick, word) for tick in (1, 2, 3, 4) for word in ("done", "failed")]
WORDS = ["task", "order", "other", "both", "race", "again", "within", "later", "keep", "easy", "back", "watch"]


def sample_task(chance):
    many = chance.choice([1, 1, 2, 2, 2, 3])
    places = sorted(chance.sample(PLACES, many))
    ends = [(*place, share) for place, share in zip(places, chance.choice(SHARES[many]))]
    return (chance.randrange(6), chance.choice([None, 0, 1, 2, 5]), ends)


def sample_plan(chance, levels):
    word = chance.choice(WORDS) if levels > 1 else "task"
    if word == "task":
        return (word, chance.choice("abc"))
    if word in ("order", "other", "both", "race"):
        return (word, [sample_plan(chance, levels - 1) for _ in range(chance.choice([0, 1, 2, 2, 2, 3]))])
    part = sample_plan(chance, levels - 1)
    if word == "again":
        return (word, chance.randrange(1, 4), chance.randrange(3), part)
    if word in ("within", "later", "back"):
        return (word, chance.randrange(7), part)
    if word == "watch":
        return (word, chance.randrange(6), sample_plan(chance, levels - 1), part)
    return (word, part)


def many_fates(tasks, plan):
    """Return how many fates a plan has."""
    many = 1
    for name in paths_of(plan).values():
        many *= len(tasks[name][2])
    return many


def samples(seed, many, most):
    """Return a list of so many (tasks, plan) with at most so many fates, and few of them with hardly any."""
    chance = random.Random(seed)
    found = []
    while len(found) < many:
        tasks = {name: sample_task(chance) for name in "abc"}
        plan = sample_plan(chance, chance.choice([3, 4, 5, 6]))
        fates = many_fates(tasks, plan)
        if not is_plan(tasks, plan) or max(size(tasks, plan), span(tasks, plan)) > 400:
            continue
        if fates <= most and (fates > 3 or len(found) % 8 == 0):
            found.append((tasks, plan))
    return found
