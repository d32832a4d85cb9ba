"""The check of papers on whether some post brings WORKS to a GOAL."""

from worksward.aims import need_few_orders, orders_of
from worksward.basics import (
    are_ascending, is_below, is_lot, is_lot_of, is_number, is_row, is_tuple, need_paper, need_proof,
)
from worksward.sights import need_sight
from worksward.works import first_place, has_goal, is_place, need_places, need_works, stepper


def check_aim(works, sight, paper):
    """The word of a paper on whether some post brings WORKS to a GOAL."""
    need_works(works)
    need_sight(works[0], sight)
    steps_at = stepper(works)
    need_places(works, steps_at, 8)
    need_few_orders(works)
    word = need_paper(paper, {"brought": 2, "never": 2})
    if word == "brought":
        return need_proof(word, _is_brought(works, sight, steps_at, paper[1]))
    return need_proof(word, _is_never(works, sight, steps_at, paper[1]))


def _are_rows(works, many, rows):
    """Whether it is an ascending tuple of tuples of so many things, each with a LOT first, none twice, none ()."""
    def is_part(value):
        return is_place(works, value) and not has_goal(works, value)
    if not isinstance(rows, tuple):
        return False
    for row in rows:
        if not is_tuple(many, row) or not is_lot_of(is_part, row[0]) or len(row[0]) == 0:
            return False
    return are_ascending([row[0] for row in rows])


def _is_brought(works, sight, steps_at, rows):
    if not _are_rows(works, 3, rows):
        return False
    for _, rank, order in rows:
        if not is_number(rank) or rank < 0 or not _is_order(works, order):
            return False
    ranks = {lot: rank for lot, rank, _ in rows}
    if not has_goal(works, first_place(works)) and (first_place(works),) not in ranks:
        return False
    return all([_brings(works, sight, steps_at, row, ranks) for row in rows])


def _is_order(works, value):
    return is_lot(works[0], value) and not any([deed in works[2] for deed in value])


def _brings(works, sight, steps_at, row, ranks):
    """Whether an ORDER does not fail at a LOT, and all seen deeds lead to () or to LOTS with a lesser RANK."""
    lot, rank, order = row
    width = _width(works, sight, steps_at, lot, order)
    for place in width:
        if _is_still(steps_at(place), order):
            return False
    if _has_ring(width):
        return False
    for behind in _lots_behind(works, sight, steps_at, width, order).values():
        if len(behind) > 0 and (behind not in ranks or ranks[behind] >= rank):
            return False
    return True


def _width(works, sight, steps_at, lot, order):
    """A dict of the places of the WIDTH of a LOT, each with a list of those behind it by such deeds."""
    width = {}
    waiting = list(lot)
    while len(waiting) > 0:
        place = waiting.pop()
        if place not in width:
            targets = []
            for deed, target in steps_at(place).items():
                if deed not in sight and deed not in order and not has_goal(works, target):
                    targets.append(target)
            width[place] = targets
            waiting += targets
    return width


def _is_still(steps, order):
    """Whether no deed that can be done is not forbidden."""
    return all([deed in order for deed in steps])


def _has_ring(width):
    """Whether some place of a WIDTH leads to itself again."""
    left = list(width)
    before = -1
    while before != len(left):
        before = len(left)
        lot = {place: True for place in left}
        left = [place for place in left if any([target in lot for target in width[place]])]
    return len(left) > 0


def _lots_behind(works, sight, steps_at, width, order):
    """A dict of the LOTS, perhaps (), behind the seen deeds that can be done in a WIDTH, and are not forbidden."""
    behind = {}
    for place in width:
        for deed, target in steps_at(place).items():
            if deed in sight and deed not in order:
                lot = behind.setdefault(deed, {})
                if not has_goal(works, target):
                    lot[target] = True
    return {deed: tuple(sorted(lot)) for deed, lot in behind.items()}


def _is_never(works, sight, steps_at, rows):
    if not _are_rows(works, 2, rows):
        return False
    lots = {lot: True for lot, _ in rows}
    if (first_place(works),) not in lots:
        return False
    orders = orders_of(works)
    for lot, fails in rows:
        if not is_tuple(len(orders), fails):
            return False
        for order, fail in zip(orders, fails):
            if not _fails(works, sight, steps_at, lot, order, fail, lots):
                return False
    return True


def _fails(works, sight, steps_at, lot, order, fail, lots):
    """Whether an ORDER fails at a LOT with a thing, LOTS behind seen deeds being among some."""
    if not isinstance(fail, tuple) or not 2 <= len(fail) <= 3 or not isinstance(fail[0], str):
        return False
    width = _width(works, sight, steps_at, lot, order)
    if fail[0] == "seen" and len(fail) == 2:
        if not is_below(works[0], fail[1]):
            return False
        return _lots_behind(works, sight, steps_at, width, order).get(fail[1]) in lots
    if not is_place(works, fail[1]) or fail[1] not in width:
        return False
    if fail[0] == "still" and len(fail) == 2:
        return _is_still(steps_at(fail[1]), order)
    return fail[0] == "ring" and len(fail) == 3 and _is_ring(works, sight, steps_at, width, order, fail)


def _is_ring(works, sight, steps_at, width, order, fail):
    _, place, ring = fail
    if not is_row(works[0], ring) or len(ring) == 0:
        return False
    at = place
    for deed in ring:
        at = steps_at(at).get(deed)
        if deed in sight or deed in order or at not in width:
            return False
    return at == place
