"""For what TOTAL a GUARD brings WORKS by a WISH to a GOAL, and papers on it.

PAIRS stand here as numbers, in the order in which they come, as far as GOALS.
"""

from heapq import heappop, heappush

from worksward.basics import is_number, spread
from worksward.costpapers import need_prices
from worksward.errors import OutOfPlace
from worksward.wishes import first_pair, need_both, pair_stepper
from worksward.works import has_goal


def least_total(works, wish, prices):
    """The LEAST TOTAL, or None."""
    need_both(works, wish)
    need_prices(works, prices)
    _, goals, ways = _field(works, wish, prices)
    totals = _totals(goals, ways)
    return totals[0] if 0 in totals else None


def total_paper(works, wish, prices, total):
    """A paper on a TOTAL."""
    need_both(works, wish)
    need_prices(works, prices)
    if not is_number(total) or total < 0:
        raise OutOfPlace("total is not an integer from 0 on")
    pairs, goals, ways = _field(works, wish, prices)
    totals = _totals(goals, ways)
    if 0 in totals and totals[0] <= total:
        return ("total", total, _rows_of(pairs, ways, totals))
    # What was not met costs as much as the first PAIR at least; if that was not met, it is never brought to a GOAL.
    most = totals.get(0)
    rows = [(pair, totals.get(number, most)) for number, pair in enumerate(pairs)]
    return ("more", total, tuple(sorted([row for row in rows if row[1] != 0])))


def _field(works, wish, prices):
    """The PAIRS that come; a dict of the numbers of those that are GOALS; and for the others what may be done there.

    That is a pair of whether deeds of FREE can be done, and of triples of a deed, its price and the number behind it,
    or None for what leads out: of these deeds alone where there are such, otherwise of all.
    """
    steps_at = pair_stepper(works, wish)

    def steps_of(pair):
        return {} if has_goal(works, pair[0]) else steps_at(pair)
    table = spread(first_pair(works), steps_of)
    numbers = {pair: number for number, pair in enumerate(table)}
    goals = {}
    ways = []
    for pair, steps in table.items():
        if has_goal(works, pair[0]):
            goals[numbers[pair]] = True
        free = [deed for deed in works[2] if deed in steps]
        deeds = free if len(free) > 0 else list(steps)
        ways.append((len(free) > 0, [(deed, prices[deed], numbers.get(steps[deed])) for deed in deeds]))
    return list(table), goals, ways


def _totals(goals, ways):
    """For the number of each PAIR from which a GUARD brings to a GOAL the least total, up to that of the first PAIR.

    The lesser ones are met first.
    """
    sources = [[] for _ in ways]
    left = []
    for number, (_, row) in enumerate(ways):
        left.append(len(row))
        for _, price, target in row:
            if target is not None:
                sources[target].append((number, price))
    queue = [(0, number) for number in goals]
    totals = {}
    while len(queue) > 0 and 0 not in totals:
        total, number = heappop(queue)
        if number not in totals:
            totals[number] = total
            for source, price in sources[number]:
                left[source] -= 1
                is_free, row = ways[source]
                if not is_free:
                    heappush(queue, (total + price, source))
                elif left[source] == 0:
                    # All deeds of FREE are met; the one that costs the most counts.
                    heappush(queue, (max([totals[target] + cost for _, cost, target in row]), source))
    return totals


def _rows_of(pairs, ways, totals):
    """The rows of a paper with "total": what comes from the first PAIR on by the deeds that cost the least."""
    steps = {number: at for at, number in enumerate(totals)}
    rows = []
    known = {0: True}
    waiting = [0]
    while len(waiting) > 0:
        number = waiting.pop()
        is_free, row = ways[number]
        # GOALS have no ways.
        chosen = row if is_free else [way for way in row if _is_best(way, number, totals, steps)][:1]
        for _, _, target in chosen:
            if target not in known:
                known[target] = True
                waiting.append(target)
        rows.append((pairs[number], tuple([deed for deed, _, _ in chosen]), totals[number], steps[number]))
    return tuple(sorted(rows))


def _is_best(way, number, totals, steps):
    """Whether a way leads to a PAIR that was met earlier, and costs as little as told."""
    _, price, target = way
    if target not in steps or steps[target] >= steps[number]:
        return False
    return totals[target] + price <= totals[number]
