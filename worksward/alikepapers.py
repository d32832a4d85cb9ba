"""The check of papers on whether two WORKS are alike."""

from worksward.basics import is_lot_of, is_row, is_tuple, need_paper, need_proof, walk
from worksward.works import first_place, has_goal, is_place, need_other, need_works, place_table, steps_at


def check_alike(works, other, paper):
    """The first word of a paper on whether WORKS and other WORKS are alike."""
    need_works(works)
    need_other(works, other)
    word = need_paper(paper, {"alike": 2, "unlike": 2})
    if word == "alike":
        return need_proof(word, _is_alike_table(works, other, paper[1]))
    return need_proof(word, _is_unlike_run(works, other, paper[1]))


def _is_alike_table(works, other, table):
    def is_couple(value):
        return is_tuple(2, value) and is_place(works, value[0]) and is_place(other, value[1])
    if not is_lot_of(is_couple, table):
        return False
    lot = {couple: True for couple in table}
    if (first_place(works), first_place(other)) not in lot:
        return False
    return all([_goes_alike(works, other, couple, lot) for couple in table])


def _goes_alike(works, other, couple, lot):
    """Whether both places of a couple are alike at once, and each deed leads to a couple of the lot."""
    one, two = couple
    steps = steps_at(works, one)
    others = steps_at(other, two)
    if list(steps) != list(others) or has_goal(works, one) != has_goal(other, two):
        return False
    return all([(target, others[deed]) in lot for deed, target in steps.items()])


def _is_unlike_run(works, other, run):
    if not is_row(works[0], run):
        return False
    one = walk(place_table(works), first_place(works), run)
    two = walk(place_table(other), first_place(other), run)
    if one is not None and two is not None:
        return has_goal(works, one) != has_goal(other, two)
    if one is None and two is None:
        return False
    # One of both has the whole RUN, so all its beginnings are RUNS of that one already.
    return all([walk(place_table(works), first_place(works), run[:-1]) is not None,
                walk(place_table(other), first_place(other), run[:-1]) is not None])
