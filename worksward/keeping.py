"""What GUARDS that see all can keep: whether a WISH can be kept, papers on it, and its GREATEST PART."""

from worksward.basics import leading, plan_of, spread, walk
from worksward.errors import Nothing, OutOfPlace
from worksward.wishes import first_pair, need_both, pair_table, standings
from worksward.works import has_goal, need_run


def both_pairs(works, wish):
    """The ascending tuple of the PAIRS that come."""
    return standings(works, wish)


def can_keep(works, wish):
    """Whether a WISH can be kept."""
    need_both(works, wish)
    _, gone = _stages(works, pair_table(works, wish))
    return first_pair(works) not in gone


def keeping_paper(works, wish):
    """A paper on whether a WISH can be kept."""
    need_both(works, wish)
    table = pair_table(works, wish)
    stages, gone = _stages(works, table)
    if first_pair(works) in gone:
        return ("lost", tuple(stages))
    return ("kept", _table_of(_steps_left(works, table, gone)))


def greatest_part(works, wish):
    """The GREATEST TABLE of a WISH that can be kept."""
    return _table_of(_need_kept(works, wish))


def is_let(works, wish, value):
    """Whether any value is a RUN of the GREATEST PART, however long."""
    need_both(works, wish)
    kept = _kept_steps(works, wish)
    return kept is not None and _walk_kept(works, kept, value) is not None


def let_deeds(works, wish, run):
    """The ascending tuple of the deeds behind which a RUN of the GREATEST PART is one still."""
    need_both(works, wish)
    need_run(works, run)
    kept = _kept_steps(works, wish)
    pair = None if kept is None else _walk_kept(works, kept, run)
    if pair is None:
        raise OutOfPlace("the run is none of the greatest part")
    return tuple(kept[pair])


def kept_plan(works, wish):
    """The KEPT PLAN of a WISH that can be kept."""
    kept = _need_kept(works, wish)
    return plan_of(works[0], kept, _goals_among(works, kept))


def _need_kept(works, wish):
    """The table of steps of the GREATEST PART; refuses a WISH that cannot be kept."""
    need_both(works, wish)
    kept = _kept_steps(works, wish)
    if kept is None:
        raise Nothing("the wish cannot be kept")
    return kept


def _table_of(kept):
    return tuple(sorted([(pair, tuple(steps)) for pair, steps in kept.items()]))


def _goals_among(works, pairs):
    return {pair: True for pair in pairs if has_goal(works, pair[0])}


def _walk_kept(works, kept, value):
    """The PAIR of any value as a RUN of the GREATEST PART, or None."""
    def steps_at(pair):
        return kept[pair]
    return walk(steps_at, first_pair(works), value)


def _kept_steps(works, wish):
    """The table of steps of the GREATEST PART, or None if the WISH cannot be kept."""
    table = pair_table(works, wish)
    _, gone = _stages(works, table)
    return None if first_pair(works) in gone else _steps_left(works, table, gone)


def _steps_left(works, table, gone):
    """The table of steps of what comes without the PAIRS that are gone."""
    rest = _without(table, gone)

    def steps_at(pair):
        return rest[pair]
    return spread(first_pair(works), steps_at)


def _without(table, gone):
    """A table of steps without the PAIRS that are gone, and all that leads to them, or out."""
    rest = {}
    for pair, steps in table.items():
        if pair not in gone:
            rest[pair] = {deed: to for deed, to in steps.items() if to is not None and to not in gone}
    return rest


def _stages(works, table):
    """The stages in which PAIRS that come are lost, up to that of the first PAIR, or all; and the PAIRS in them."""
    first = first_pair(works)
    gone = {}
    stages = []
    while first not in gone:
        rows = _freely_lost(works, table, gone)
        lot = [pair for pair, _ in rows] if len(rows) > 0 else _still_lost(works, table, gone)
        if len(lot) == 0:
            break
        stages.append(("free", tuple(sorted(rows))) if len(rows) > 0 else ("still", tuple(sorted(lot))))
        for pair in lot:
            gone[pair] = True
    return stages, gone


def _freely_lost(works, table, gone):
    """The PAIRS from which a deed of FREE leads to one that is not good, or gone, each with this deed."""
    rows = []
    for pair, steps in table.items():
        if pair not in gone:
            for deed in works[2]:
                if deed in steps and (steps[deed] is None or steps[deed] in gone):
                    rows.append((pair, deed))
                    break
    return rows


def _still_lost(works, table, gone):
    """The PAIRS from which nothing that is not gone leads to a GOAL."""
    rest = _without(table, gone)
    led = leading(rest, _goals_among(works, rest))
    return [pair for pair in rest if pair not in led]
