"""Arrows: orders in which some parts must be ahead of others, blocks of parts, and chains that are woven together."""

from prepaidplans.checks import is_between
from prepaidplans.errors import InvalidArrows, InvalidChains, NotRisky, TooMany
from prepaidplans.parts import check_parts, priced_parts
from prepaidplans.plans import check_size, is_plan
from prepaidplans.tasks import check_tasks
from prepaidplans.turns import Turn, is_cheaper, is_order, joined, ranks_of, row_cost

MOST_ARROWS = 60
MOST_WITH_ARROWS = 9
MOST_CHAINS = 4
MOST_IN_CHAINS = 12


def best_with_arrows(tasks, parts, arrows):
    """Return the least one of the cheapest orders that fit the arrows."""
    needs = _needs_of(tasks, parts, arrows)
    turns = priced_parts(tasks, parts)
    rests = _cheapest_rests(turns, needs)
    begun = 0
    order = []
    ended = False
    while len(order) < len(turns):
        # Behind a part that is never done nothing begins: there every order that fits costs the same.
        best = [index for index in _free(needs, begun) if ended or _is_cheapest(turns, rests, begun, index)][0]
        order.append(best)
        begun |= 1 << best
        ended = ended or turns[best].is_last()
    return order


def is_best_with_arrows(tasks, parts, arrows, value):
    """Return whether any value is one of the cheapest orders that fit the arrows."""
    needs = _needs_of(tasks, parts, arrows)
    if not is_order(value, len(parts)) or not all([value.index(i) < value.index(j) for i, j in arrows]):
        return False
    turns = priced_parts(tasks, parts)
    return row_cost(turns, value) == _cheapest_rests(turns, needs)[0].cost()


def blocks(tasks, parts):
    """Return the list of (first, last) of the blocks into which parts are cut."""
    check_parts(tasks, parts)
    turns = priced_parts(tasks, parts)
    _check_risky(turns)
    return _blocks_of(turns)


def woven(tasks, chains):
    """Return a weaving of chains than which no other one costs less."""
    return _woven(_priced_chains(tasks, chains))


def is_best_weaving(tasks, chains, value):
    """Return whether any value is a weaving of chains that costs no more than any other one."""
    rows = _priced_chains(tasks, chains)
    return _is_weaving(rows, value) and _weaving_cost(rows, value) == _weaving_cost(rows, _woven(rows))


def _needs_of(tasks, parts, arrows):
    """Return for each part the set of those that must be ahead of it, or raise the first error.

    Here a set of parts is an integer, with the bit of each index in it.
    """
    check_parts(tasks, parts)
    many = len(parts)
    if many > MOST_WITH_ARROWS:
        raise TooMany(MOST_WITH_ARROWS)
    if not isinstance(arrows, list) or len(arrows) > MOST_ARROWS or not all([_is_arrow(one, many) for one in arrows]):
        raise InvalidArrows("arrows are a list of at most 60 tuples of two different indexes")
    needs = [0] * many
    for i, j in arrows:
        needs[j] |= 1 << i
    if _leads_round(needs):
        raise InvalidArrows("the arrows lead round")
    return needs


def _is_arrow(value, many):
    if not isinstance(value, tuple) or len(value) != 2:
        return False
    return all([is_between(index, 0, many - 1) for index in value])


def _leads_round(needs):
    # This tells arrows from a part to itself, too.
    begun = 0
    for _ in needs:
        free = _free(needs, begun)
        if not free:
            return True
        begun |= 1 << free[0]
    return False


def _free(needs, begun):
    """Return the list of the parts that can begin behind a set of them."""
    waiting = [(index, need) for index, need in enumerate(needs) if (begun >> index) & 1 == 0]
    return [index for index, need in waiting if (need & begun) == need]


def _cheapest_rests(turns, needs):
    """Return for each set of parts the cheapest row that the other ones are behind it."""
    every = 1 << len(turns)
    rests = [Turn(0, 0, 0, 1)] * every
    for begun in reversed(range(every - 1)):
        rows = [joined([turns[index], rests[begun | 1 << index]]) for index in _free(needs, begun)]
        rests[begun] = min(rows, key=lambda row: row.cost())
    return rests


def _is_cheapest(turns, rests, begun, index):
    row = joined([turns[index], rests[begun | 1 << index]])
    return row.cost() == rests[begun].cost()


def _check_risky(turns):
    for index, turn in enumerate(turns):
        if turn.stop == 0 or turn.is_last():
            raise NotRisky(index)


def _blocks_of(turns):
    found = []
    first = 0
    while first < len(turns):
        last = first
        block = row = turns[first]
        for index in range(first + 1, len(turns)):
            row = joined([row, turns[index]])
            if not is_cheaper(block, row):
                block = row
                last = index
        found.append((first, last))
        first = last + 1
    return found


def _priced_chains(tasks, chains):
    """Return for each chain the list of the turns of its plans, or raise the first error."""
    check_tasks(tasks)
    if not _are_chains(tasks, chains):
        raise InvalidChains("chains are a list of 1 to 4 lists of plans, at most 12 in all")
    plans = [plan for chain in chains for plan in chain]
    for plan in plans:
        check_size(tasks, plan)
    turns = priced_parts(tasks, plans)
    _check_risky(turns)
    rows = []
    for chain in chains:
        rows.append(turns[:len(chain)])
        turns = turns[len(chain):]
    return rows


def _are_chains(tasks, value):
    if not isinstance(value, list) or not 1 <= len(value) <= MOST_CHAINS:
        return False
    if not all([isinstance(chain, list) for chain in value]):
        return False
    if sum([len(chain) for chain in value]) > MOST_IN_CHAINS:
        return False
    return all([is_plan(tasks, plan) for chain in value for plan in chain])


def _woven(rows):
    # The blocks of each chain become dearer from one to the next: so by ascending price they keep their order.
    found = [(chain, first, last) for chain, turns in enumerate(rows) for first, last in _blocks_of(turns)]
    ranks = ranks_of([joined(rows[chain][first:last + 1]) for chain, first, last in found])
    ranked = sorted(zip(ranks, found), key=lambda pair: pair[0])
    return [(chain, index) for _, (chain, first, last) in ranked for index in range(first, last + 1)]


def _is_weaving(rows, value):
    if not isinstance(value, list) or len(value) != sum([len(turns) for turns in rows]):
        return False
    places = [0 for _ in rows]
    for one in value:
        if not isinstance(one, tuple) or len(one) != 2:
            return False
        chain, index = one
        if not is_between(chain, 0, len(rows) - 1) or not is_between(index, 0, len(rows[chain]) - 1):
            return False
        if index != places[chain]:
            return False
        places[chain] += 1
    return True


def _weaving_cost(rows, weaving):
    return joined([rows[chain][index] for chain, index in weaving]).cost()
