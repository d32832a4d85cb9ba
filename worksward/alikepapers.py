"""The check of papers on whether two WORKS are alike."""

from worksward.basics import is_lot_of, is_row, is_tuple, need_paper, need_proof, walk
from worksward.works import first_place, has_goal, is_place, need_other, need_works, stepper


def check_alike(works, other, paper):
    """The first word of a paper on whether WORKS and other WORKS are alike."""
    need_works(works)
    need_other(works, other)
    word = need_paper(paper, {"alike": 2, "unlike": 2})
    if word == "alike":
        return need_proof(word, _is_alike_table(works, other, paper[1]))
    return need_proof(word, _is_unlike_run(works, other, paper[1]))


def _is_alike_table(works, other, table):
    def is_couple(value):
        return is_tuple(2, value) and is_place(works, value[0]) and is_place(other, value[1])
    if not is_lot_of(is_couple, table):
        return False
    lot = {couple: True for couple in table}
    if (first_place(works), first_place(other)) not in lot:
        return False
    steps_at = stepper(works)
    others_at = stepper(other)
    for one, two in table:
        if has_goal(works, one) != has_goal(other, two) or not _go_alike(steps_at(one), others_at(two), lot):
            return False
    return True


def _go_alike(steps, others, lot):
    """Whether the same deeds can be done at two places, and each leads to a couple of the lot."""
    if list(steps) != list(others):
        return False
    return all([(target, others[deed]) in lot for deed, target in steps.items()])


def _is_unlike_run(works, other, run):
    if not is_row(works[0], run):
        return False
    steps_at = stepper(works)
    others_at = stepper(other)
    one = walk(steps_at, first_place(works), run)
    two = walk(others_at, first_place(other), run)
    if one is not None and two is not None:
        return has_goal(works, one) != has_goal(other, two)
    if one is None and two is None:
        return False
    # One of both has the whole RUN, so all its beginnings are RUNS of that one already.
    if one is None:
        return walk(steps_at, first_place(works), run[:-1]) is not None
    return walk(others_at, first_place(other), run[:-1]) is not None
