"""SIGHTS, the LOOKS of RUNS by them, and ESTIMATES."""

from worksward.basics import is_lot, need_row
from worksward.errors import OutOfPlace, TooMany
from worksward.wishes import first_pair, need_wish, pair_table
from worksward.works import need_run, need_works


def need_sight(deeds, sight):
    """Refuses what is no SIGHT."""
    if not is_lot(deeds, sight):
        raise OutOfPlace("sight is not an ascending tuple of deeds")


def look_of(works, sight, run):
    """The LOOK of a RUN."""
    need_works(works)
    need_sight(works[0], sight)
    need_run(works, run)
    return tuple([deed for deed in run if deed in sight])


def estimate(works, wish, sight, look):
    """The ESTIMATE of a LOOK."""
    need_works(works)
    need_wish(works[0], wish)
    need_sight(works[0], sight)
    need_row(works[0], look)
    table = pair_table(works, wish)
    known = first_estimate(works, sight, table)
    for deed in look:
        if deed not in sight or known[1]:
            raise OutOfPlace("not a look, or something is out ahead of its end")
        known = next_estimate(sight, table, known, deed)
    if known == ((), False):
        raise OutOfPlace("the look of no run")
    if len(table) > 12:
        raise TooMany(12)
    return known


def first_estimate(works, sight, table):
    """The ESTIMATE of () by a table of steps of STANDINGS."""
    return _estimate_of(sight, table, [first_pair(works)])


def next_estimate(sight, table, known, deed):
    """The ESTIMATE behind a seen deed more, nothing being out ahead of it."""
    return _estimate_of(sight, table, [table[pair][deed] for pair in known[0] if deed in table[pair]])


def _estimate_of(sight, table, starts):
    """The ESTIMATE of what comes from some STANDINGS, or None for what is out, by deeds that are not seen."""
    lot = {}
    waiting = list(starts)
    while len(waiting) > 0:
        pair = waiting.pop()
        if pair not in lot:
            lot[pair] = True
            steps = table[pair] if pair is not None else {}
            waiting += [target for deed, target in steps.items() if deed not in sight]
    return (tuple(sorted([pair for pair in lot if pair is not None])), None in lot)
