"""What GUARDS that see all can keep: whether a WISH can be kept, papers on it, and its GREATEST PART."""

from worksward.basics import leading, plan_of, spread, walk
from worksward.errors import Nothing, OutOfPlace
from worksward.wishes import first_pair, need_wish, pair_table, standings
from worksward.works import has_goal, need_run, need_works


def both_pairs(works, wish):
    """The ascending tuple of the PAIRS that come."""
    return standings(works, wish)


def can_keep(works, wish):
    """Whether a WISH can be kept."""
    _need_both(works, wish)
    return _kept_steps(works, wish) is not None


def keeping_paper(works, wish):
    """A paper on whether a WISH can be kept."""
    _need_both(works, wish)
    kept = _kept_steps(works, wish)
    if kept is None:
        return ("lost", tuple(_stages(works, wish)))
    return ("kept", _table_of(kept))


def greatest_part(works, wish):
    """The GREATEST TABLE of a WISH that can be kept."""
    return _table_of(_need_kept(works, wish))


def is_let(works, wish, value):
    """Whether any value is a RUN of the GREATEST PART, however long."""
    _need_both(works, wish)
    kept = _kept_steps(works, wish)
    return kept is not None and walk(kept, first_pair(works), value) is not None


def let_deeds(works, wish, run):
    """The ascending tuple of the deeds behind which a RUN of the GREATEST PART is one still."""
    _need_both(works, wish)
    need_run(works, run)
    kept = _kept_steps(works, wish)
    pair = None if kept is None else walk(kept, first_pair(works), run)
    if pair is None:
        raise OutOfPlace("the run is none of the greatest part")
    return tuple(kept[pair])


def kept_plan(works, wish):
    """The KEPT PLAN of a WISH that can be kept."""
    kept = _need_kept(works, wish)
    return plan_of(works[0], kept, _goals_among(works, kept))


def _need_both(works, wish):
    need_works(works)
    need_wish(works[0], wish)


def _need_kept(works, wish):
    """The table of steps of the GREATEST PART; refuses a WISH that cannot be kept."""
    _need_both(works, wish)
    kept = _kept_steps(works, wish)
    if kept is None:
        raise Nothing("the wish cannot be kept")
    return kept


def _table_of(kept):
    return tuple(sorted([(pair, tuple(steps)) for pair, steps in kept.items()]))


def _goals_among(works, pairs):
    return {pair: True for pair in pairs if has_goal(works, pair[0])}


def _kept_steps(works, wish):
    """The table of steps of the GREATEST PART, or None if the WISH cannot be kept."""
    gone = {}
    for stage in _stages(works, wish):
        gone = _gone_behind(stage, gone)
    if first_pair(works) in gone:
        return None
    table = _without(pair_table(works, wish), gone)

    def steps_of(pair):
        return table[pair]
    return spread(first_pair(works), steps_of)


def _without(table, gone):
    """A table of steps without the PAIRS that are gone, and all that leads to them, or out."""
    rest = {}
    for pair, steps in table.items():
        if pair not in gone:
            rest[pair] = {deed: to for deed, to in steps.items() if to is not None and to not in gone}
    return rest


def _stages(works, wish):
    """The stages in which PAIRS that come are lost, up to that of the first PAIR, or all there are."""
    table = pair_table(works, wish)
    gone = {}
    stages = []
    while first_pair(works) not in gone:
        stage = _free_stage(works, table, gone)
        if len(stage[1]) == 0:
            stage = _still_stage(works, table, gone)
        if len(stage[1]) == 0:
            return stages
        stages.append(stage)
        gone = _gone_behind(stage, gone)
    return stages


def _gone_behind(stage, gone):
    """The PAIRS that are gone behind a stage."""
    pairs = list(stage[1]) if stage[0] == "still" else [pair for pair, _ in stage[1]]
    return {pair: True for pair in [*list(gone), *pairs]}


def _free_stage(works, table, gone):
    """The stage of the PAIRS from which a deed of FREE leads to one that is not good, or gone."""
    rows = []
    for pair, steps in table.items():
        if pair not in gone:
            bad = [deed for deed, to in steps.items() if deed in works[2] and (to is None or to in gone)]
            rows += [(pair, deed) for deed in bad[:1]]
    return ("free", tuple(sorted(rows)))


def _still_stage(works, table, gone):
    """The stage of the PAIRS from which nothing that is not gone leads to a GOAL."""
    rest = _without(table, gone)
    led = leading(rest, _goals_among(works, rest))
    return ("still", tuple(sorted([pair for pair in rest if pair not in led])))
