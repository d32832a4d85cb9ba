"""What keeps a WISH moving, the MEAN that it costs at least, and papers on it.

PAIRS stand here as numbers, as they ascend. A game has, for each PAIR from which a WISH can be kept moving, the ways
that a GUARD may leave, each a triple of a weight, the number of the PAIR behind it and the deed; and whether the
*chooser* goes one of them, or the other side does. Weights are PRICES where the GUARD chooses, and the negative ones
where he is the other side: the chooser always wants little.
"""

from heapq import heappop, heappush
from math import gcd

from worksward.basics import ranks_from
from worksward.costpapers import need_prices
from worksward.errors import Nothing
from worksward.sights import coded
from worksward.wishes import need_both, pair_table


def can_move(works, wish):
    """Whether some GUARD keeps a WISH moving."""
    need_both(works, wish)
    _, goes, outs = coded(pair_table(works, wish))
    return 0 not in _gone(works, goes, outs)


def mean_cost(works, wish, prices):
    """The MEAN of a WISH."""
    _, goes, gone = _need_moving(works, wish, prices)
    game = _game(works, goes, gone, prices, True)
    mean = _first_mean(game)
    if not _is_open(game):
        return mean
    mean, _, _ = _value(game, mean)
    return mean


def most_paper(works, wish, prices):
    """A paper on the MEAN with "most"."""
    _, mean, rows = _told(works, wish, prices, True)
    return ("most", mean, tuple([(pair, deeds, height) for pair, deeds, height, _ in rows]))


def least_paper(works, wish, prices):
    """A paper on the MEAN with "least"."""
    gone, mean, rows = _told(works, wish, prices, False)
    table = [(pair, deeds[0] if is_chosen else None, height) for pair, deeds, height, is_chosen in rows]
    return ("least", (-mean[0], mean[1]), gone, tuple(table))


def _told(works, wish, prices, is_guard):
    """What is gone, as a paper has it; the mean that the chooser comes to; and a row for each PAIR that comes then.

    A row has the PAIR, the deeds that are done there, the HEIGHT, and whether the chooser goes on from there.
    """
    nodes, goes, gone = _need_moving(works, wish, prices)
    game = _game(works, goes, gone, prices, is_guard)
    mean, heights, weighed = _value(game, _first_mean(game))
    rows = []
    for number, ways in sorted(_ways_from_first(game, heights, weighed).items()):
        deeds = tuple(sorted([deed for _, _, deed in ways]))
        rows.append((nodes[number], deeds, heights[number], game[1][number]))
    return tuple([(nodes[number], rank) for number, rank in sorted(gone.items())]), mean, rows


def _need_moving(works, wish, prices):
    """The PAIRS, their steps and those that are gone; refuses wrong arguments, and where no GUARD keeps moving."""
    need_both(works, wish)
    need_prices(works, prices)
    nodes, goes, outs = coded(pair_table(works, wish))
    gone = _gone(works, goes, outs)
    if 0 in gone:
        raise Nothing("no guard keeps the wish moving")
    return nodes, goes, gone


def _gone(works, goes, outs):
    """For each PAIR from which no GUARD keeps a WISH moving a RANK greater than those of the PAIRS that make it so."""
    sources = [[] for _ in goes]
    left = []
    layer = []
    for number, steps in enumerate(goes):
        ways = outs[number]
        free = [deed for deed in works[2] if deed in steps or deed in ways]
        targets = [steps[deed] for deed in free if deed in steps] if len(free) > 0 else list(steps.values())
        # Of deeds of FREE one that leads away is enough, of other deeds all must.
        many = 1 if len(free) > 0 else len(targets)
        if len(targets) < len(free):
            many = 0
        left.append(many)
        if many == 0:
            layer.append(number)
        for target in targets:
            sources[target].append(number)
    return ranks_from(layer, sources, left)


def _game(works, goes, gone, prices, is_guard):
    """The game from the first PAIR on in which a GUARD chooses, or the other side does."""
    sign = 1 if is_guard else -1
    ways = {}
    chooses = {}
    waiting = [0]
    while len(waiting) > 0:
        number = waiting.pop()
        if number not in ways:
            steps = goes[number]
            free = [deed for deed in works[2] if deed in steps]
            deeds = free if len(free) > 0 else [deed for deed, target in steps.items() if target not in gone]
            ways[number] = [(sign * prices[deed], steps[deed], deed) for deed in deeds]
            chooses[number] = (len(free) == 0) == is_guard
            waiting += [target for _, target, _ in ways[number]]
    return ways, chooses


def _is_open(game):
    """Whether the other side has a choice."""
    ways, chooses = game
    return any([len(row) > 1 and not chooses[number] for number, row in ways.items()])


def _first_mean(game):
    """The least mean that comes if the other side always goes the way with the greatest weight."""
    ways, chooses = game
    return _least_mean({number: row if chooses[number] else [max(row)] for number, row in ways.items()})


def _value(game, mean):
    """The mean that the chooser comes to, one that is no greater being known; HEIGHTS by it, and the ways weighed."""
    ways, _ = game
    while True:
        weighed = _weighed(ways, mean)
        heights, chosen = _heights(game, weighed)
        if heights[0] is not None:
            return mean, heights, weighed
        mean = _least_mean(_forced(ways, chosen))


def _weighed(ways, mean):
    """For each number pairs of how much more each way weighs than a mean, and the number behind it."""
    above, below = mean
    return {number: [(below * weight - above, to) for weight, to, _ in row] for number, row in ways.items()}


def _forced(ways, chosen):
    """What comes from the first PAIR on where the other side goes the chosen ways."""
    found = {}
    waiting = [0]
    while len(waiting) > 0:
        number = waiting.pop()
        if number not in found:
            at = chosen[number]
            found[number] = ways[number] if at is None else [ways[number][at]]
            waiting += [target for _, target, _ in found[number]]
    return found


def _heights(game, weighed):
    """For each number the most that ways weigh together from there on if the chooser does best, None if ever more.

    Beside it what the other side chooses: it stops at once where there is nothing; else the index of its way, or None
    where the chooser has to go on. It chooses better until it can do no better, or has all that it wants at 0.
    """
    chooses = game[1]
    heights = {number: 0 for number in weighed}
    chosen = {}
    while heights[0] is not None:
        is_better = False
        for number, row in weighed.items():
            height = heights[number]
            if height is None:
                continue
            if not chooses[number]:
                at = _best_index(row, heights, height)
                if at is not None:
                    chosen[number] = at
                    is_better = True
            elif number not in chosen and _must_climb(row, heights):
                chosen[number] = None
                is_better = True
        if not is_better:
            break
        heights = _risen(weighed, heights, chosen)
    return heights, chosen


def _best_index(row, heights, height):
    """The index of the way that weighs the most with what is behind it, if that is more than the height."""
    best = None
    for at, (weight, target) in enumerate(row):
        if heights[target] is None:
            return at
        if weight + heights[target] > height:
            height = weight + heights[target]
            best = at
    return best


def _must_climb(row, heights):
    """Whether all ways weigh more than nothing with what is behind them."""
    for weight, target in row:
        if heights[target] is not None and weight + heights[target] <= 0:
            return False
    return True


def _risen(weighed, heights, chosen):
    """The heights by what is chosen; they are the old ones and the least of what is more on a way to a stop.

    What is more along a way is never below 0, since each choice is as good as the heights were.
    """
    sources = {number: [] for number in weighed}
    queue = []
    for number, row in weighed.items():
        height = heights[number]
        if height is None:
            continue
        if number not in chosen:
            queue.append((0, number))
            continue
        at = chosen[number]
        for weight, target in row if at is None else row[at:at + 1]:
            if heights[target] is not None:
                sources[target].append((weight + heights[target] - height, number))
    risen = {number: None for number in weighed}
    while len(queue) > 0:
        more, number = heappop(queue)
        if risen[number] is None:
            risen[number] = heights[number] + more
            for rise, source in sources[number]:
                if risen[source] is None:
                    heappush(queue, (more + rise, source))
    return risen


def _ways_from_first(game, heights, weighed):
    """A dict of the numbers that come from the first PAIR on, with their ways, just the best one where it is chosen."""
    ways, chooses = game
    found = {}
    waiting = [0]
    while len(waiting) > 0:
        number = waiting.pop()
        if number not in found:
            found[number] = ways[number]
            if chooses[number]:
                sums = [None if heights[to] is None else weight + heights[to] for weight, to in weighed[number]]
                at = sums.index(min([total for total in sums if total is not None]))
                found[number] = [ways[number][at]]
            waiting += [target for _, target, _ in found[number]]
    return found


def _least_mean(ways):
    """The least mean of the weights along a ring, as a fraction in lowest terms.

    Ways are chosen that weigh less, by the least mean known, until none does or they make a ring with a lesser mean.
    """
    chosen = {number: min(row) for number, row in ways.items()}
    mean = _ring_mean(chosen)
    sums = {number: 0 for number in ways}
    while True:
        above, below = mean
        is_less = False
        for number, row in ways.items():
            for way in row:
                total = sums[way[1]] + below * way[0] - above
                if total < sums[number]:
                    sums[number] = total
                    chosen[number] = way
                    is_less = True
        if not is_less:
            return mean
        other = _ring_mean(chosen)
        if other[0] * below < above * other[1]:
            mean = other
            sums = {number: 0 for number in ways}


def _ring_mean(chosen):
    """The least mean of the weights along the rings of ways of which each number has just one."""
    best = None
    seen = {}
    for first in chosen:
        number = first
        total = 0
        many = 0
        while number not in seen:
            seen[number] = (first, total, many)
            weight, number, _ = chosen[number]
            total += weight
            many += 1
        start, ahead, steps = seen[number]
        # A ring that an earlier number led to is known.
        if start == first:
            total -= ahead
            many -= steps
            if best is None or total * best[1] < best[0] * many:
                best = (total, many)
    common = gcd(best[0], best[1])
    return (best[0] // common, best[1] // common)
