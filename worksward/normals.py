"""The NORMAL PART of a WISH by a SIGHT, its ORDERS, its RUNS and the paper on it."""

from worksward.basics import is_below, need_row, spread
from worksward.errors import OutOfPlace
from worksward.sights import coded, look_masks, mask_behind, need_sight, need_standings, numbers_in, seen_of
from worksward.wishes import need_both
from worksward.works import need_run


def has_normal(works, wish, sight):
    """Whether the NORMAL PART has a RUN."""
    need_both(works, wish)
    need_sight(works[0], sight)
    nodes, _, table = need_estimates(works, wish, sight)
    return next(iter(table), None) not in _lost(works, table, 1 << len(nodes))


def in_normal(works, wish, sight, run):
    """Whether a RUN is of the NORMAL PART."""
    need_both(works, wish)
    need_sight(works[0], sight)
    need_run(works, run)
    nodes, _, table = need_estimates(works, wish, sight)
    lost = _lost(works, table, 1 << len(nodes))
    return _safe_behind(table, lost, seen_of(sight, run)) is not None


def normal_order(works, wish, sight, look):
    """The NORMAL ORDER behind a LOOK of a RUN of the NORMAL PART."""
    need_both(works, wish)
    need_sight(works[0], sight)
    need_row(works[0], look)
    nodes, _, table = need_estimates(works, wish, sight)
    lost = _lost(works, table, 1 << len(nodes))
    mask = _safe_behind(table, lost, look)
    if mask is None:
        raise OutOfPlace("the look of no run of the normal part")
    return _order_at(table[mask], lost)


def normal_runs(works, wish, sight, length):
    """How many RUNS of the NORMAL PART have so many deeds."""
    need_both(works, wish)
    need_sight(works[0], sight)
    if not is_below(41, length):
        raise OutOfPlace("length is not an integer from 0 to 40")
    nodes, goes, table = need_estimates(works, wish, sight)
    lost = _lost(works, table, 1 << len(nodes))
    first = next(iter(table), None)
    if first in lost:
        return 0
    # A node is a number: that of a SAFE ESTIMATE, and in its last four bits that of a STANDING.
    known = {}
    counts = {first << 4: 1}
    for _ in range(length):
        longer = {}
        for node, many in counts.items():
            if node not in known:
                known[node] = _nodes_behind(goes[node & 15], table[node >> 4], lost, node)
            for target in known[node]:
                longer[target] = longer.get(target, 0) + many
        counts = longer
    return sum(counts.values())


def normal_paper(works, wish, sight):
    """The paper on the NORMAL PART."""
    need_both(works, wish)
    need_sight(works[0], sight)
    nodes, _, table = need_estimates(works, wish, sight)
    out = 1 << len(nodes)
    lost = _lost(works, table, out)
    good = []
    bad = []
    for mask, steps in table.items():
        known = (tuple([nodes[number] for number in numbers_in(mask & out - 1)]), mask >= out)
        if mask in lost:
            bad.append((known, *lost[mask]))
        else:
            good.append((known, _order_at(steps, lost)))
    return ("normal", tuple(sorted(good)), tuple(sorted(bad)))


def need_estimates(works, wish, sight):
    """The STANDINGS, the steps that go on from each, and the table of steps of the ESTIMATES that come.

    An ESTIMATE is a mask with a bit for each STANDING, by its number, and one more if something is out; that of () is
    the first one of the table. Refuses too many STANDINGS, then too many ESTIMATES.
    """
    nodes, goes, outs = coded(need_standings(works, wish, 12))
    widths, jumps = look_masks(goes, outs, sight)
    return nodes, goes, estimate_table(len(nodes), widths[0], jumps)


def estimate_table(many, first, jumps):
    """The table of steps of the ESTIMATES of so many STANDINGS that come from the first one; refuses too many."""
    out = 1 << many

    def steps_at(mask):
        steps = {}
        if mask < out:
            for deed, row in jumps.items():
                behind = mask_behind(row, mask)
                if behind > 0:
                    steps[deed] = behind
        return steps
    return spread(first, steps_at, 200)


def _lost(works, table, out):
    """For each ESTIMATE that is not SAFE its RANK, and a deed of FREE that leads to one with a lesser RANK, or None."""
    sources = {mask: [] for mask in table}
    lost = {}
    waiting = []
    for mask, steps in table.items():
        if mask >= out:
            lost[mask] = (0, None)
            waiting.append(mask)
        for deed in works[2]:
            if deed in steps:
                sources[steps[deed]].append((mask, deed))
    while len(waiting) > 0:
        at = waiting.pop()
        for mask, deed in sources[at]:
            if mask not in lost:
                lost[mask] = (lost[at][0] + 1, deed)
                waiting.append(mask)
    return lost


def _safe_behind(table, lost, look):
    """The ESTIMATE behind a LOOK if it, and those of all its beginnings, are SAFE; otherwise None."""
    mask = next(iter(table), None)
    if mask in lost:
        return None
    for deed in look:
        mask = table[mask].get(deed)
        if mask is None or mask in lost:
            return None
    return mask


def _order_at(steps, lost):
    return tuple([deed for deed, target in steps.items() if target in lost])


def _nodes_behind(steps, behind, lost, node):
    """The nodes behind one, by the steps of its STANDING, and by what is behind its ESTIMATE."""
    nodes = []
    for deed, number in steps.items():
        if deed not in behind:
            nodes.append(node - (node & 15) + number)
        elif behind[deed] not in lost:
            nodes.append((behind[deed] << 4) + number)
    return nodes
