"""Doomed places, which FAULTS are foreseen by a SIGHT, and papers on it."""

from worksward.basics import ranks_from
from worksward.faults import need_faults, need_numbered
from worksward.sights import need_sight
from worksward.works import need_works, place_table


def doomed_places(works, faults):
    """The ascending tuple of the places that come and are doomed."""
    need_works(works)
    need_faults(works, faults)
    return tuple(sorted(_doomed_ranks(place_table(works), faults)))


def are_foreseen(works, faults, sight):
    """Whether FAULTS are foreseen by a SIGHT."""
    _need_all(works, faults, sight)
    _, goes = need_numbered(works)
    _, late = _couples(goes, faults, sight, _doomed_by_number(goes, faults))
    return late is None


def foreseen_paper(works, faults, sight):
    """A paper on whether FAULTS are foreseen by a SIGHT."""
    _need_all(works, faults, sight)
    places, goes = need_numbered(works)
    ranks = _doomed_by_number(goes, faults)
    couples, late = _couples(goes, faults, sight, ranks)
    if late is None:
        rows = [(places[number], rank) for number, rank in sorted(ranks.items())]
        return ("foreseen", tuple(rows), tuple([(places[x], places[y]) for x, y in sorted(couples)]))
    one, other = couples[late]
    return ("late", one, other, *_escape(goes, faults, ranks, late[1]))


def _need_all(works, faults, sight):
    need_works(works)
    need_faults(works, faults)
    need_sight(works[0], sight)


def _doomed_by_number(goes, faults):
    return _doomed_ranks({number: steps for number, steps in enumerate(goes)}, faults)


def _doomed_ranks(table, faults):
    """For each doomed place of a table of steps a RANK that is greater than that of each one behind it.

    Places behind faults do not count.
    """
    sources = {place: [] for place in table}
    left = {}
    ready = []
    for place, steps in table.items():
        targets = [target for deed, target in steps.items() if deed not in faults]
        left[place] = len(targets)
        for target in targets:
            sources[target].append(place)
        # At a still place there is no fault to come.
        if len(targets) == 0 and len(steps) > 0:
            ready.append(place)
    return ranks_from(ready, sources, left)


def _couples(goes, faults, sight, ranks):
    """The couples of places of two RUNS that look alike and are not faulty, by their numbers, each with such RUNS.

    Ahead of them all, where they end early: the one met at whose first place a fault can be done, the second one being
    not doomed.
    """
    runs = {(0, 0): ((), ())}
    layer = [(0, 0)]
    while len(layer) > 0:
        following = []
        for couple in layer:
            if couple[1] not in ranks and any([deed in goes[couple[0]] for deed in faults]):
                return runs, couple
            one, other = runs[couple]
            for target, first, second in _couples_behind(goes, faults, sight, couple):
                if target not in runs:
                    runs[target] = (one + first, other + second)
                    following.append(target)
        layer = following
    return runs, None


def _couples_behind(goes, faults, sight, couple):
    """The couples behind one, each with the deeds of both RUNS that lead to it."""
    x, y = couple
    found = []
    for deed, to in goes[x].items():
        if deed not in faults:
            if deed not in sight:
                found.append(((to, y), (deed,), ()))
            elif deed in goes[y]:
                found.append(((to, goes[y][deed]), (deed,), (deed,)))
    for deed, to in goes[y].items():
        if deed not in faults and deed not in sight:
            found.append(((x, to), (), (deed,)))
    return found


def _escape(goes, faults, ranks, number):
    """WAY and RING from a place that is not doomed: deeds without faults that go on for ever, or to a still place."""
    lengths = {}
    row = ()
    while number not in lengths:
        lengths[number] = len(row)
        ways = [(deed, to) for deed, to in goes[number].items() if deed not in faults and to not in ranks]
        if len(ways) == 0:
            return row, ()
        row = row + ways[0][:1]
        number = ways[0][1]
    return row[:lengths[number]], row[lengths[number]:]
