"""The check of papers on whether WORKS fit a LOG."""

from worksward.basics import are_ascending, is_below, is_tuple, need_paper, need_proof
from worksward.logs import moved, moves_by, need_log, shows
from worksward.wishes import first_pair, is_good_pair, need_both, pair_behind, pair_stepper


def check_fit(works, wish, log, paper):
    """The first word of a paper on whether WORKS fit a LOG by a WISH."""
    need_both(works, wish)
    need_log(works[0], log)
    word = need_paper(paper, {"fits": 2, "fails": 3})
    if word == "fits":
        return need_proof(word, _do_fit(works, wish, log, paper[1]))
    number, ground = paper[1:]
    return need_proof(word, is_below(len(log), number) and _is_ground(works, wish, log[number], ground, "never"))


def _do_fit(works, wish, log, grounds):
    if not is_tuple(len(log), grounds):
        return False
    for entry, ground in zip(log, grounds):
        if not _is_ground(works, wish, entry, ground, "done"):
            return False
    return True


def _is_ground(works, wish, entry, ground, word):
    """Whether any value is a RUN that is wished and shows an ENTRY, if it has the word, otherwise a NET of it."""
    if entry[3] == word:
        return pair_behind(works, wish, ground) is not None and shows(works[0], entry, ground)
    return _is_net(works, wish, entry, ground)


def _is_net(works, wish, entry, net):
    if not isinstance(net, tuple):
        return False
    for knot in net:
        if not is_tuple(4, knot) or not is_good_pair(works, wish, knot[:2]):
            return False
        if not is_below(len(entry[2]), knot[2]) or not is_below(entry[1] + 1, knot[3]):
            return False
    # The first one is the least of all.
    if net[:1] != ((*first_pair(works), 0, 0),) or not are_ascending(net):
        return False
    masks = {}
    for place, state, heard, lost in net:
        masks[(place, state)] = masks.get((place, state), 0) + (1 << 3 * heard + lost)
    steps_at = pair_stepper(works, wish)
    moves, keeps, _ = moves_by(works[0], entry)
    for pair, mask in masks.items():
        for deed, target in steps_at(pair).items():
            if target is not None and moved(moves[deed], keeps, mask) & ~masks.get(target, 0):
                return False
    return True
