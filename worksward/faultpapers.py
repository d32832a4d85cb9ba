"""The checks of papers on FAULTS: within how many deeds they are told, and whether they are foreseen."""

from worksward.basics import (
    are_ascending, is_list_by, is_lot_of, is_number, is_tuple, need_paper, need_proof, walk,
)
from worksward.faults import need_faults
from worksward.sights import need_sight, seen_of
from worksward.works import first_place, is_place, need_places, need_works, stepper


def check_told(works, faults, sight, paper):
    """The word of a paper on whether FAULTS are told within some number of deeds by a SIGHT."""
    need_works(works)
    need_faults(works, faults)
    need_sight(works[0], sight)
    steps_at = stepper(works)
    need_places(works, steps_at, 12)
    word = need_paper(paper, {"told": 4, "never": 5})
    if word == "told":
        return need_proof(word, _is_told(works, faults, sight, steps_at, paper[1:]))
    return need_proof(word, _is_never(works, faults, sight, steps_at, paper[1:]))


def check_foreseen(works, faults, sight, paper):
    """The word of a paper on whether FAULTS are foreseen by a SIGHT."""
    need_works(works)
    need_faults(works, faults)
    need_sight(works[0], sight)
    steps_at = stepper(works)
    need_places(works, steps_at, 12)
    word = need_paper(paper, {"foreseen": 3, "late": 5})
    if word == "foreseen":
        return need_proof(word, _is_foreseen(works, faults, sight, steps_at, paper[1:]))
    return need_proof(word, _is_late(works, faults, sight, steps_at, paper[1:]))


def _is_told(works, faults, sight, steps_at, told):
    most, rows, couple = told
    if not is_number(most) or most < 0 or not isinstance(rows, tuple):
        return False
    for row in rows:
        if not _is_row(works, row):
            return False
    if not are_ascending([row[:3] for row in rows]):
        return False
    heights = {row[:3]: row[3] for row in rows}
    if (0, first_place(works), first_place(works)) not in heights:
        return False
    for row in rows:
        if not _goes_on(faults, sight, steps_at, heights, most, row):
            return False
    return _is_couple(works, faults, sight, steps_at, most, couple)


def _is_row(works, row):
    """Whether any value is a quadruple (MARK, X, Y, HEIGHT)."""
    if not is_tuple(4, row) or not is_number(row[0]) or not 0 <= row[0] <= 1:
        return False
    return is_place(works, row[1]) and is_place(works, row[2]) and is_number(row[3]) and row[3] >= 0


def _goes_on(faults, sight, steps_at, heights, most, row):
    """Whether all that a quadruple asks for is there, with a HEIGHT as told."""
    mark, x, y, height = row
    steps = steps_at(y)
    for deed, target in steps_at(x).items():
        after = 1 if deed in faults else mark
        if deed not in sight:
            found = heights.get((after, target, y))
        elif deed not in faults and deed in steps:
            found = heights.get((mark, target, steps[deed]))
        else:
            continue
        if found is None or mark == 1 and found >= height or mark < after and found >= most:
            return False
    for deed, target in steps.items():
        if deed not in sight and deed not in faults:
            found = heights.get((mark, x, target))
            if found is None or found > height:
                return False
    return True


def _is_couple(works, faults, sight, steps_at, most, couple):
    if most == 0:
        return is_tuple(0, couple)
    if not is_tuple(2, couple) or not _look_alike(works, faults, sight, steps_at, couple[0], couple[1]):
        return False
    first = _first_fault(faults, couple[0])
    return first is not None and len(couple[0]) - first - 1 == most - 1


def _look_alike(works, faults, sight, steps_at, one, other):
    """Whether two values are RUNS that look alike, the second one not faulty."""
    if walk(steps_at, first_place(works), one) is None or walk(steps_at, first_place(works), other) is None:
        return False
    return _first_fault(faults, other) is None and seen_of(sight, one) == seen_of(sight, other)


def _first_fault(faults, run):
    """How many deeds a RUN has ahead of its first fault, or None."""
    for place, deed in enumerate(run):
        if deed in faults:
            return place
    return None


def _is_never(works, faults, sight, steps_at, told):
    one, ring, other, turn = told
    if not _look_alike(works, faults, sight, steps_at, one, other) or _first_fault(faults, one) is None:
        return False
    place = walk(steps_at, first_place(works), one)
    beside = walk(steps_at, first_place(works), other)
    if walk(steps_at, place, ring) != place or walk(steps_at, beside, turn) != beside or len(ring) == 0:
        return False
    return _first_fault(faults, turn) is None and seen_of(sight, ring) == seen_of(sight, turn)


def _is_foreseen(works, faults, sight, steps_at, told):
    rows, couples = told

    def is_one(value):
        return is_place(works, value)

    def is_couple(value):
        return is_tuple(2, value) and is_one(value[0]) and is_one(value[1])
    if not is_list_by(is_one, rows) or not is_lot_of(is_couple, couples):
        return False
    ranks = {place: rank for place, rank in rows}
    if not all([is_number(rank) and rank >= 0 for rank in ranks.values()]):
        return False
    lot = {couple: True for couple in couples}
    if (first_place(works), first_place(works)) not in lot:
        return False
    if not all([_is_doomed(faults, steps_at(place), ranks, rank) for place, rank in rows]):
        return False
    return all([_is_ready(faults, sight, steps_at, ranks, lot, couple) for couple in couples])


def _is_doomed(faults, steps, ranks, rank):
    for deed, target in steps.items():
        if deed not in faults and not (target in ranks and ranks[target] < rank):
            return False
    return len(steps) > 0


def _is_ready(faults, sight, steps_at, ranks, lot, couple):
    """Whether all that a couple of places asks for is there, and the second one is doomed where it is to be."""
    one, other = couple
    steps = steps_at(other)
    for deed, target in steps_at(one).items():
        if deed in faults:
            if other not in ranks:
                return False
        elif deed not in sight:
            if (target, other) not in lot:
                return False
        elif deed in steps and (target, steps[deed]) not in lot:
            return False
    for deed, target in steps.items():
        if deed not in faults and deed not in sight and (one, target) not in lot:
            return False
    return True


def _is_late(works, faults, sight, steps_at, told):
    one, other, way, ring = told
    if not _look_alike(works, faults, sight, steps_at, one, other) or _first_fault(faults, one) is not None:
        return False
    if not any([deed in faults for deed in steps_at(walk(steps_at, first_place(works), one))]):
        return False
    place = walk(steps_at, walk(steps_at, first_place(works), other), way)
    if place is None or walk(steps_at, place, ring) != place:
        return False
    if _first_fault(faults, way) is not None or _first_fault(faults, ring) is not None:
        return False
    return len(ring) > 0 or len(steps_at(place)) == 0
