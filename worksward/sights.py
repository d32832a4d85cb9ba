"""SIGHTS, the LOOKS of RUNS by them, and ESTIMATES."""

from worksward.basics import is_lot, need_row, spread
from worksward.errors import OutOfPlace
from worksward.wishes import first_pair, need_both, pair_stepper
from worksward.works import need_run, need_works


def need_sight(deeds, sight):
    """Refuses what is no SIGHT."""
    if not is_lot(deeds, sight):
        raise OutOfPlace("sight is not an ascending tuple of deeds")


def look_of(works, sight, run):
    """The LOOK of a RUN."""
    need_works(works)
    need_sight(works[0], sight)
    need_run(works, run)
    return tuple([deed for deed in run if deed in sight])


def estimate(works, wish, sight, look):
    """The ESTIMATE of a LOOK."""
    need_both(works, wish)
    need_sight(works[0], sight)
    need_row(works[0], look)
    steps_at = pair_stepper(works, wish)
    known = first_estimate(works, sight, steps_at)
    for deed in look:
        if deed not in sight or known[1]:
            raise OutOfPlace("not a look, or something is out ahead of its end")
        known = next_estimate(sight, steps_at, known, deed)
    if known == ((), False):
        raise OutOfPlace("the look of no run")
    spread(first_pair(works), steps_at, 12)
    return known


def first_estimate(works, sight, steps_at):
    """The ESTIMATE of () by the steps of STANDINGS."""
    return _estimate_of(sight, steps_at, [first_pair(works)])


def next_estimate(sight, steps_at, known, deed):
    """The ESTIMATE behind a seen deed more, nothing being out ahead of it."""
    starts = []
    for pair in known[0]:
        steps = steps_at(pair)
        if deed in steps:
            starts.append(steps[deed])
    return _estimate_of(sight, steps_at, starts)


def _estimate_of(sight, steps_at, starts):
    """The ESTIMATE of what comes from some STANDINGS, or None for what is out, by deeds that are not seen."""
    is_out = False
    lot = {}
    waiting = starts
    while len(waiting) > 0:
        pair = waiting.pop()
        if pair is None:
            is_out = True
        elif pair not in lot:
            lot[pair] = True
            for deed, target in steps_at(pair).items():
                if deed not in sight:
                    waiting.append(target)
    return (tuple(sorted(lot)), is_out)
