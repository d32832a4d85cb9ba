"""FAULTS: which RUNS are faulty, within how many deeds FAULTS are told by a SIGHT, and papers on it.

A couple of two RUNS that look alike, the second one not faulty, is a triple (MARK, X, Y): MARK is 1 if the first one
is faulty, otherwise 0; X and Y are the numbers of their places.
"""

from worksward.basics import is_lot, spread
from worksward.errors import OutOfPlace
from worksward.sights import need_sight
from worksward.works import first_place, need_run, need_works, stepper


def need_faults(works, faults):
    """Refuses what is not FAULTS."""
    if not is_lot(works[0], faults) or len(faults) == 0:
        raise OutOfPlace("faults is not an ascending tuple of one deed at least")


def is_faulty(works, faults, run):
    """Whether a RUN is faulty."""
    need_works(works)
    need_faults(works, faults)
    need_run(works, run)
    return any([deed in faults for deed in run])


def least_told(works, faults, sight):
    """The least number of deeds within which FAULTS are told by a SIGHT, or None."""
    _, field = _need_field(works, faults, sight)
    heights, ring = _heights(field, _couples(field))
    if ring is not None:
        return None
    return 1 + max(heights.values()) if len(heights) > 0 else 0


def told_paper(works, faults, sight):
    """A paper on whether FAULTS are told within some number of deeds by a SIGHT."""
    places, field = _need_field(works, faults, sight)
    couples = _couples(field)
    heights, ring = _heights(field, couples)
    if ring is not None:
        one, other = _runs_to(couples, (1, *ring[0]))
        more, turn = _runs_along(field, [*ring, ring[0]])
        return ("never", one, more, other, turn)
    rows = [(mark, places[x], places[y], heights[(x, y)] if mark == 1 else 0) for mark, x, y in sorted(couples)]
    if len(heights) == 0:
        return ("told", 0, tuple(rows), ())
    most = max(heights.values())
    return ("told", most + 1, tuple(rows), _longest(field, couples, heights, most))


def _need_field(works, faults, sight):
    """The places, ascending, and what is known of them by their numbers; refuses wrong arguments.

    That is a list of their steps, a list of what unseen deeds come to that are no faults, FAULTS and the SIGHT.
    """
    need_works(works)
    need_faults(works, faults)
    need_sight(works[0], sight)
    places, goes = need_numbered(works)
    silent = [deed for deed in range(works[0]) if deed not in sight and deed not in faults]
    return places, (goes, [_wide(goes, silent, number) for number in range(len(goes))], faults, sight)


def need_numbered(works):
    """The places, ascending, and by their numbers a list of their steps; refuses more than 12 places."""
    table = spread(first_place(works), stepper(works), 12)
    places = sorted(table)
    numbers = {place: number for number, place in enumerate(places)}
    return places, [{deed: numbers[target] for deed, target in table[place].items()} for place in places]


def _wide(goes, silent, number):
    """A dict of the places to which such deeds, perhaps none, lead from one, each with a row of them."""
    rows = {number: ()}
    layer = [number]
    while len(layer) > 0:
        following = []
        for at in layer:
            for deed, target in goes[at].items():
                if deed in silent and target not in rows:
                    rows[target] = rows[at] + (deed,)
                    following.append(target)
        layer = following
    return rows


def _couples(field):
    """All couples that come, each with the one ahead, a deed, and whether the first and the second RUN do it."""
    couples = {(0, 0, 0): None}
    layer = [(0, 0, 0)]
    while len(layer) > 0:
        following = []
        for couple in layer:
            for target, way in _couples_behind(field, couple):
                if target not in couples:
                    couples[target] = (couple, *way)
                    following.append(target)
        layer = following
    return couples


def _couples_behind(field, couple):
    goes, _, faults, sight = field
    mark, x, y = couple
    found = []
    for deed, to in goes[x].items():
        if deed not in sight:
            found.append(((1 if deed in faults else mark, to, y), (deed, True, False)))
        elif deed not in faults and deed in goes[y]:
            found.append(((mark, to, goes[y][deed]), (deed, True, True)))
    for deed, to in goes[y].items():
        if deed not in sight and deed not in faults:
            found.append(((mark, x, to), (deed, False, True)))
    return found


def _heights(field, couples):
    """For X and Y of each couple with MARK 1 how many deeds the first RUN may do at most while both look alike.

    Beside them None; or, if they may be ever more, a list of X and Y that lead, in turn, to the first of them again.
    """
    heights = {}
    for mark, x, y in couples:
        if mark == 1 and (x, y) not in heights:
            ring = _fill(field, heights, (x, y))
            if ring is not None:
                return heights, ring
    return heights, None


def _fill(field, heights, first):
    """Adds the heights of X and Y and of all that comes behind; gives a ring of them if there is one, else None."""
    path = [first]
    waiting = [list(_pairs_behind(field, first))]
    most = [0]
    places = {first: 0}
    while len(path) > 0:
        if len(waiting[-1]) > 0:
            pair = waiting[-1].pop()
            if pair in places:
                return path[places[pair]:]
            if pair in heights:
                most[-1] = max(most[-1], 1 + heights[pair])
            else:
                places[pair] = len(path)
                path.append(pair)
                waiting.append(list(_pairs_behind(field, pair)))
                most.append(0)
        else:
            pair = path.pop()
            heights[pair] = most.pop()
            waiting.pop()
            del places[pair]
            if len(path) > 0:
                most[-1] = max(most[-1], 1 + heights[pair])
    return None


def _pairs_behind(field, pair):
    """A dict of X and Y behind a deed of the first RUN, ahead of which the second one may do unseen deeds.

    Each has this deed and the deeds of the second one.
    """
    goes, wides, faults, sight = field
    x, y = pair
    found = {}
    for deed, to in goes[x].items():
        if deed not in sight:
            found[(to, y)] = (deed, ())
        elif deed not in faults:
            for at, row in wides[y].items():
                if deed in goes[at]:
                    found[(to, goes[at][deed])] = (deed, row + (deed,))
    return found


def _runs_to(couples, couple):
    """The two RUNS that lead to a couple."""
    one = ()
    other = ()
    while couples[couple] is not None:
        couple, deed, is_first, is_second = couples[couple]
        one = (deed,) + one if is_first else one
        other = (deed,) + other if is_second else other
    return one, other


def _runs_along(field, pairs):
    """The deeds of both RUNS along a list of X and Y."""
    one = ()
    other = ()
    for pair, target in zip(pairs, pairs[1:]):
        deed, row = _pairs_behind(field, pair)[target]
        one = one + (deed,)
        other = other + row
    return one, other


def _longest(field, couples, heights, most):
    """Two RUNS that look alike, the second one not faulty, the first one with as many deeds behind its first fault."""
    pairs = [(x, y) for mark, x, y in couples if mark == 1 and heights[(x, y)] == most][:1]
    one, other = _runs_to(couples, (1, *pairs[0]))
    while heights[pairs[-1]] > 0:
        behind = _pairs_behind(field, pairs[-1])
        pairs.append([pair for pair in behind if heights[pair] == heights[pairs[-1]] - 1][0])
    more, others = _runs_along(field, pairs)
    return one + more, other + others
