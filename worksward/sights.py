"""SIGHTS, the LOOKS of RUNS by them, and ESTIMATES."""

from worksward.basics import is_lot, need_row, spread
from worksward.errors import OutOfPlace
from worksward.wishes import first_pair, need_both, pair_stepper
from worksward.works import need_run, need_works


def need_sight(deeds, sight):
    """Refuses what is no SIGHT."""
    if not is_lot(deeds, sight):
        raise OutOfPlace("sight is not an ascending tuple of deeds")


def seen_of(sight, run):
    """The seen deeds of a RUN, in turn."""
    return tuple([deed for deed in run if deed in sight])


def look_of(works, sight, run):
    """The LOOK of a RUN."""
    need_works(works)
    need_sight(works[0], sight)
    need_run(works, run)
    return seen_of(sight, run)


def estimate(works, wish, sight, look):
    """The ESTIMATE of a LOOK."""
    need_both(works, wish)
    need_sight(works[0], sight)
    need_row(works[0], look)
    steps_at = pair_stepper(works, wish)
    known = first_estimate(works, sight, steps_at)
    for deed in look:
        if deed not in sight or known[1]:
            raise OutOfPlace("not a look, or something is out ahead of its end")
        known = next_estimate(sight, steps_at, known, deed)
    if known == ((), False):
        raise OutOfPlace("the look of no run")
    spread(first_pair(works), steps_at, 12)
    return known


def first_estimate(works, sight, steps_at):
    """The ESTIMATE of () by the steps of STANDINGS."""
    return _estimate_of(sight, steps_at, [first_pair(works)])


def next_estimate(sight, steps_at, known, deed):
    """The ESTIMATE behind a seen deed more, nothing being out ahead of it."""
    starts = []
    for pair in known[0]:
        steps = steps_at(pair)
        if deed in steps:
            starts.append(steps[deed])
    return _estimate_of(sight, steps_at, starts)


def _estimate_of(sight, steps_at, starts):
    """The ESTIMATE of what comes from some STANDINGS, or None for what is out, by deeds that are not seen."""
    is_out = False
    lot = {}
    waiting = starts
    while len(waiting) > 0:
        pair = waiting.pop()
        if pair is None:
            is_out = True
        elif pair not in lot:
            lot[pair] = True
            for deed, target in steps_at(pair).items():
                if deed not in sight:
                    waiting.append(target)
    return (tuple(sorted(lot)), is_out)


def need_standings(works, wish, most):
    """The table of steps of the STANDINGS; refuses more than so many."""
    return spread(first_pair(works), pair_stepper(works, wish), most)


def coded(table):
    """A table of STANDINGS by numbers, as they ascend, so that the first one is 0.

    It is a list of them; a list with a dict of the deeds that go on from each, and the numbers behind; and a list
    with a list of the deeds that lead out from each.
    """
    nodes = sorted(table)
    numbers = {node: number for number, node in enumerate(nodes)}
    goes = []
    outs = []
    for node in nodes:
        steps = table[node]
        goes.append({deed: numbers[target] for deed, target in steps.items() if target is not None})
        outs.append([deed for deed, target in steps.items() if target is None])
    return nodes, goes, outs


def number_of(numbers, value):
    """The number of any value that is one of the STANDINGS in a dict of numbers, otherwise None."""
    if not isinstance(value, tuple) or len(value) != 2 or not isinstance(value[0], tuple):
        return None
    for state in (value[1], *value[0]):
        # As a key True would be 1, and a list could be none.
        if not isinstance(state, int) or state is True or state is False:
            return None
    return numbers.get(value)


def look_masks(goes, outs, sight):
    """What is known behind LOOKS, as masks: a bit for each STANDING, by its number, and one more for what is out.

    It is a list of what comes by unseen deeds from each STANDING, itself included; and a dict with a list, for each
    seen deed, of what comes by it, and unseen ones behind it, from each.
    """
    out = 1 << len(goes)
    widths = [_width(goes, outs, sight, number) for number in range(len(goes))]
    jumps = {}
    for deed in sight:
        row = []
        for steps, ways in zip(goes, outs):
            if deed in steps:
                row.append(widths[steps[deed]])
            else:
                row.append(out if deed in ways else 0)
        jumps[deed] = row
    return widths, jumps


def _width(goes, outs, sight, number):
    width = 1 << number
    waiting = [number]
    while len(waiting) > 0:
        at = waiting.pop()
        for deed, target in goes[at].items():
            if deed not in sight and not width >> target & 1:
                width += 1 << target
                waiting.append(target)
        for deed in outs[at]:
            if deed not in sight:
                width = width | 1 << len(goes)
    return width


def mask_behind(row, mask):
    """What comes from the STANDINGS of a mask by a seen deed, row being the list of it; 0 if it cannot come."""
    behind = 0
    number = 0
    while mask > 0:
        if mask & 1:
            behind = behind | row[number]
        mask = mask >> 1
        number += 1
    return behind


def wished_mask(goes, sight, look):
    """The STANDINGS of the wished RUNS with a LOOK, as a mask; 0 if there are none."""
    outs = [()] * len(goes)
    widths = {}
    known = {}
    mask = _width(goes, outs, sight, 0)
    for deed in look:
        if deed not in sight:
            return 0
        if (mask, deed) not in known:
            behind = 0
            for number in numbers_in(mask):
                target = goes[number].get(deed)
                if target is not None:
                    if target not in widths:
                        widths[target] = _width(goes, outs, sight, target)
                    behind = behind | widths[target]
            known[(mask, deed)] = behind
        mask = known[(mask, deed)]
        if mask == 0:
            return 0
    return mask


def numbers_in(mask):
    """The numbers of the bits of a mask, ascending."""
    return [number for number in range(mask.bit_length()) if mask >> number & 1]
