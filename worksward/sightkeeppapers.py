"""The check of papers on whether a WISH can be kept by a SIGHT."""

from worksward.basics import is_below, is_lot_of, is_tuple, need_paper, need_proof
from worksward.sights import need_sight, need_standings, seen_of
from worksward.wishes import first_pair, is_good_pair, need_both, pair_behind


def check_sight(works, wish, sight, paper):
    """The word of a paper on whether a WISH can be kept by a SIGHT."""
    need_both(works, wish)
    need_sight(works[0], sight)
    table = need_standings(works, wish, 12)
    word = need_paper(paper, {"kept": 2, "free": 2, "alike": 4})
    if word == "kept":
        return need_proof(word, _is_kept_table(works, wish, sight, table, paper[1]))
    if word == "free":
        return need_proof(word, leads_freely_out(works, wish, table, paper[1]))
    return need_proof(word, _are_alike(works, wish, sight, table, paper[1:]))


def leads_freely_out(works, wish, table, run):
    """Whether any value is a RUN that leads out by a deed of FREE."""
    if not isinstance(run, tuple) or len(run) == 0 or not is_below(works[0], run[-1]) or run[-1] not in works[2]:
        return False
    standing = pair_behind(works, wish, run[:-1])
    return standing is not None and run[-1] in table[standing] and table[standing][run[-1]] is None


def _are_alike(works, wish, sight, table, told):
    one, other, deed = told
    standing = pair_behind(works, wish, one)
    beside = pair_behind(works, wish, other)
    if standing is None or beside is None or not is_below(works[0], deed):
        return False
    if table[standing].get(deed) is None or deed not in table[beside] or table[beside][deed] is not None:
        return False
    return seen_of(sight, one) == seen_of(sight, other)


def _is_kept_table(works, wish, sight, table, couples):
    def is_couple(value):
        return is_tuple(2, value) and is_standing(value[0]) and is_standing(value[1])

    def is_standing(value):
        return is_good_pair(works, wish, value) and value in table
    if not is_lot_of(is_couple, couples):
        return False
    lot = {couple: True for couple in couples}
    if (first_pair(works), first_pair(works)) not in lot:
        return False
    for one, two in couples:
        if not _goes_on(works, sight, table[one], table[two], (one, two), lot):
            return False
    return True


def _goes_on(works, sight, steps, others, couple, lot):
    """Whether all that a couple of STANDINGS asks for is in the lot, and it has no clash, and nothing freely out."""
    for deed, target in steps.items():
        if target is None:
            if deed in works[2]:
                return False
        elif deed not in sight:
            if (target, couple[1]) not in lot:
                return False
        elif others.get(deed) is not None and (target, others[deed]) not in lot:
            return False
    for deed, target in others.items():
        if target is None:
            if deed in works[2] or steps.get(deed) is not None:
                return False
        elif deed not in sight and (couple[0], target) not in lot:
            return False
    return True
