"""The check of papers on whether a WISH can be kept."""

from worksward.basics import is_list_by, is_lot, is_lot_of, is_number, is_tuple, leading, need_paper, need_proof
from worksward.wishes import first_pair, is_good_pair, need_both, pair_stepper
from worksward.works import has_goal


def check_keeping(works, wish, paper):
    """The word of a paper on whether a WISH can be kept."""
    need_both(works, wish)
    word = need_paper(paper, {"kept": 2, "lost": 2})
    if word == "kept":
        return need_proof(word, _is_kept_table(works, wish, paper[1]))
    return need_proof(word, _are_lost_stages(works, wish, paper[1]))


def _is_kept_table(works, wish, table):
    def is_pair(value):
        return is_good_pair(works, wish, value)
    if not is_list_by(is_pair, table) or not all([is_lot(works[0], deeds) for _, deeds in table]):
        return False
    lists = {pair: deeds for pair, deeds in table}
    if first_pair(works) not in lists:
        return False
    steps_at = pair_stepper(works, wish)
    listed = {}
    for pair, deeds in table:
        steps = steps_at(pair)
        if not _is_kept_row(works, steps, deeds, lists):
            return False
        listed[pair] = {deed: steps[deed] for deed in deeds}
    goals = {pair: True for pair in lists if has_goal(works, pair[0])}
    return len(leading(listed, goals)) == len(lists)


def _is_kept_row(works, steps, deeds, lists):
    """Whether the deeds listed for a PAIR can be done, lead to listed PAIRS, and all such ones of FREE are there."""
    if not all([deed in deeds for deed in works[2] if deed in steps]):
        return False
    return all([steps.get(deed) in lists for deed in deeds])


def _are_lost_stages(works, wish, stages):
    if not isinstance(stages, tuple) or not all([_is_stage(works, wish, stage) for stage in stages]):
        return False
    steps_at = pair_stepper(works, wish)
    gone = {}
    for stage in stages:
        pairs = _pairs_of(stage)
        if any([pair in gone for pair in pairs]) or not _is_lost_by(works, steps_at, stage, gone):
            return False
        for pair in pairs:
            gone[pair] = True
    return len(stages) > 0 and first_pair(works) in _pairs_of(stages[-1])


def _is_stage(works, wish, stage):
    """Whether a stage has the form of one, of PAIRS that are good."""
    def is_pair(value):
        return is_good_pair(works, wish, value)
    if not is_tuple(2, stage) or not isinstance(stage[0], str):
        return False
    if stage[0] == "free":
        return is_list_by(is_pair, stage[1]) and all([is_number(deed) for _, deed in stage[1]])
    return stage[0] == "still" and is_lot_of(is_pair, stage[1])


def _pairs_of(stage):
    if stage[0] == "still":
        return stage[1]
    return tuple([pair for pair, _ in stage[1]])


def _is_lost_by(works, steps_at, stage, gone):
    """Whether a stage holds, the PAIRS of those ahead being gone."""
    if stage[0] == "free":
        return all([deed in works[2] and _leads_away(steps_at(pair), deed, gone) for pair, deed in stage[1]])
    away = {pair: True for pair in [*list(gone), *stage[1]]}
    return all([_is_shut(works, steps_at, pair, away) for pair in stage[1]])


def _leads_away(steps, deed, gone):
    """Whether a deed can be done, and leads to a PAIR that is not good or is gone."""
    return deed in steps and (steps[deed] is None or steps[deed] in gone)


def _is_shut(works, steps_at, pair, away):
    """Whether a PAIR is no GOAL, and all deeds lead from it to PAIRS that are not good, or away."""
    if has_goal(works, pair[0]):
        return False
    return all([target is None or target in away for target in steps_at(pair).values()])
