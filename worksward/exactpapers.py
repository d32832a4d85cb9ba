"""The check of papers on whether a WISH is exact."""

from worksward.basics import is_lot_of, is_number, need_paper, need_proof
from worksward.wishes import first_pair, is_good_pair, need_both, pair_behind, pair_stepper


def check_exact(works, wish, paper):
    """The word of a paper on whether a WISH is exact."""
    need_both(works, wish)
    word = need_paper(paper, {"exact": 2, "out": 3})
    if word == "exact":
        return need_proof(word, _is_exact_table(works, wish, paper[1]))
    return need_proof(word, _is_way_out(works, wish, paper[1], paper[2]))


def _is_exact_table(works, wish, table):
    def is_pair(value):
        return is_good_pair(works, wish, value)
    if not is_lot_of(is_pair, table):
        return False
    lot = {pair: True for pair in table}
    if first_pair(works) not in lot:
        return False
    steps_at = pair_stepper(works, wish)
    return all([_stays(works, steps_at(pair), lot) for pair in table])


def _stays(works, steps, lot):
    """Whether each deed leads to a PAIR of the lot, or can be stopped and leads to one that is not good."""
    for deed, target in steps.items():
        if target is None and deed in works[2]:
            return False
        if target is not None and target not in lot:
            return False
    return True


def _is_way_out(works, wish, run, deed):
    if not is_number(deed) or deed not in works[2]:
        return False
    pair = pair_behind(works, wish, run)
    if pair is None:
        return False
    steps = pair_stepper(works, wish)(pair)
    return deed in steps and steps[deed] is None
