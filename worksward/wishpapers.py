"""The checks of papers on which wishes follow, and which are the same."""

from worksward.basics import is_lot_of, is_row, is_tuple, need_paper, need_proof
from worksward.wishes import is_good_state, need_wish, wishes_row
from worksward.works import first_place, is_place, is_run_of, need_works, stepper


def check_follow(works, wish, other, paper):
    """The first word of a paper on whether a WISH follows from another one in WORKS."""
    need_works(works)
    need_wish(works[0], wish)
    need_wish(works[0], other)
    word = need_paper(paper, {"follows": 2, "not": 2})
    if word == "follows":
        return need_proof(word, _is_follow_table(works, wish, other, paper[1]))
    return need_proof(word, _is_not_run(works, wish, other, paper[1]))


def _is_follow_table(works, wish, other, table):
    def is_triple(value):
        return (is_tuple(3, value) and is_place(works, value[0])
                and is_good_state(other, value[1]) and is_good_state(wish, value[2]))
    if not is_lot_of(is_triple, table):
        return False
    lot = {triple: True for triple in table}
    if (first_place(works), 0, 0) not in lot:
        return False
    steps_at = stepper(works)
    return all([_goes_along(steps_at(triple[0]), wish, other, triple, lot) for triple in table])


def _goes_along(steps, wish, other, triple, lot):
    """Whether each deed that the other WISH goes on wishing leads to a triple of the lot."""
    _, one, two = triple
    for deed, target in steps.items():
        after = other[0][one][deed]
        if after in other[1] and (target, after, wish[0][two][deed]) not in lot:
            return False
    return True


def _is_not_run(works, wish, other, run):
    if not is_run_of(works, run):
        return False
    return wishes_row(works[0], other, run) and not wishes_row(works[0], wish, run)


def check_same(deeds, wish, other, paper):
    """The first word of a paper on whether two WISHES are the same."""
    need_wish(deeds, wish)
    need_wish(deeds, other)
    word = need_paper(paper, {"same": 2, "unlike": 2})
    if word == "same":
        return need_proof(word, _is_same_table(deeds, wish, other, paper[1]))
    row = paper[1]
    return need_proof(word, is_row(deeds, row) and wishes_row(deeds, wish, row) != wishes_row(deeds, other, row))


def _is_same_table(deeds, wish, other, table):
    def is_couple(value):
        return is_tuple(2, value) and is_good_state(wish, value[0]) and is_good_state(other, value[1])
    if not is_lot_of(is_couple, table):
        return False
    lot = {couple: True for couple in table}
    if (0, 0) not in lot:
        return False
    return all([_goes_same(deeds, wish, other, couple, lot) for couple in table])


def _goes_same(deeds, wish, other, couple, lot):
    """Whether each deed leads to a couple of the lot, or to two states that are not good."""
    for deed in range(deeds):
        one = wish[0][couple[0]][deed]
        two = other[0][couple[1]][deed]
        if (one in wish[1] or two in other[1]) and (one, two) not in lot:
            return False
    return True
