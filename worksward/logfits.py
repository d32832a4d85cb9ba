"""Whether WORKS fit a LOG by a WISH, the first RUNS that show its ENTRIES, and papers on it."""

from worksward.logs import moved, moves_by, need_log, need_number
from worksward.wishes import first_pair, need_both, pair_stepper


def do_fit(works, wish, log):
    """Whether WORKS fit a LOG by a WISH."""
    need_both(works, wish)
    need_log(works[0], log)
    steps_at = pair_stepper(works, wish)
    for entry in log:
        run, _ = _shown(works, steps_at, entry)
        if (run is None) == (entry[3] == "done"):
            return False
    return True


def shown_by(works, wish, log, number):
    """The first RUN that is wished and shows the ENTRY with a number, or None."""
    need_both(works, wish)
    need_log(works[0], log)
    need_number(log, number)
    run, _ = _shown(works, pair_stepper(works, wish), log[number])
    return run


def fit_paper(works, wish, log):
    """A paper on whether WORKS fit a LOG by a WISH."""
    need_both(works, wish)
    need_log(works[0], log)
    steps_at = pair_stepper(works, wish)
    grounds = []
    for number, entry in enumerate(log):
        run, masks = _shown(works, steps_at, entry)
        ground = _net(masks) if run is None else run
        if (run is None) == (entry[3] == "done"):
            return ("fails", number, ground)
        grounds.append(ground)
    return ("fits", tuple(grounds))


def _shown(works, steps_at, entry):
    """The first RUN that is wished and shows an ENTRY, or None; and masks of how far it is shown at each pair.

    RUNS are met by how many deeds they have, and as they ascend; of each just what is fresh behind it goes on.
    """
    moves, keeps, goal = moves_by(works[0], entry)
    first = first_pair(works)
    if goal == 1:
        return (), {}
    masks = {first: 1}
    layer = [(first, 1, ())]
    while len(layer) > 0:
        following = []
        for pair, mask, run in layer:
            for deed, target in steps_at(pair).items():
                if target is None:
                    continue
                known = masks.get(target, 0)
                fresh = moved(moves[deed], keeps, mask) & ~known
                if fresh >= goal:
                    return run + (deed,), masks
                if fresh > 0:
                    masks[target] = known | fresh
                    following.append((target, fresh, run + (deed,)))
        layer = following
    return None, masks


def _net(masks):
    """The NET of all that is shown."""
    net = []
    for (place, state), mask in masks.items():
        for bit in range(mask.bit_length()):
            if mask >> bit & 1:
                net.append((place, state, bit // 3, bit % 3))
    return tuple(sorted(net))
