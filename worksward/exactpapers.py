"""The check of papers on whether a WISH is exact."""

from worksward.basics import is_lot_of, is_number, need_paper, need_proof, walk
from worksward.wishes import first_pair, is_good_pair, need_wish, pair_steps, pair_table
from worksward.works import need_works


def check_exact(works, wish, paper):
    """The word of a paper on whether a WISH is exact."""
    need_works(works)
    need_wish(works[0], wish)
    word = need_paper(paper, {"exact": 2, "out": 3})
    if word == "exact":
        return need_proof(word, _is_exact_table(works, wish, paper[1]))
    return need_proof(word, _is_way_out(works, wish, paper[1], paper[2]))


def _is_exact_table(works, wish, table):
    def is_pair(value):
        return is_good_pair(works, wish, value)
    if not is_lot_of(is_pair, table):
        return False
    lot = {pair: True for pair in table}
    return first_pair(works) in lot and all([_stays(works, wish, pair, lot) for pair in table])


def _stays(works, wish, pair, lot):
    """Whether each deed leads to a PAIR of the lot, or can be stopped and leads to one that is not good."""
    for deed, target in pair_steps(works, wish, pair).items():
        if target is None and deed in works[2]:
            return False
        if target is not None and target not in lot:
            return False
    return True


def _is_way_out(works, wish, run, deed):
    if not is_number(deed) or deed not in works[2]:
        return False
    table = pair_table(works, wish)
    pair = walk(table, first_pair(works), run)
    return pair is not None and deed in table[pair] and table[pair][deed] is None
