"""The checks of papers on what a SIGHT hides, and on the GREATEST MASKS."""

from worksward.basics import is_below, is_list_by, is_lot, is_lot_of, is_tuple, need_paper, need_proof, walk
from worksward.secrets import guess_stepper, need_guessed
from worksward.sights import need_sight, seen_of
from worksward.wishes import first_pair, need_both
from worksward.works import is_place


def check_secret(works, wish, sight, paper):
    """The word of a paper on whether a SIGHT hides the secret."""
    need_both(works, wish)
    need_sight(works[0], sight)
    table = need_guessed(works, wish)
    word = need_paper(paper, {"hidden": 2, "given": 2})
    if word == "hidden":
        return need_proof(word, _is_hidden(works, wish, sight, paper[1]))
    return need_proof(word, _is_given(works, wish, sight, table, paper[1]))


def check_masks(works, wish, paper):
    """The word of a paper on the GREATEST MASKS."""
    need_both(works, wish)
    table = need_guessed(works, wish)
    word = need_paper(paper, {"masks": 3})
    return need_proof(word, _are_masks(works, wish, table, paper[1], paper[2]))


def _are_masks(works, wish, table, hide, give):
    def is_sight(value):
        return is_lot(works[0], value)
    if not is_list_by(is_sight, hide) or not is_list_by(is_sight, give):
        return False
    hiding = [_mask_of(sight) for sight, _ in hide]
    giving = [_mask_of(sight) for sight, _ in give]
    for lot in range(1 << works[0]):
        if not any([lot & mask == lot for mask in hiding]) and not any([lot & mask == mask for mask in giving]):
            return False
    if not all([_is_given(works, wish, sight, table, run) for sight, run in give]):
        return False
    return all([_is_hidden(works, wish, sight, guesses) for sight, guesses in hide])


def _mask_of(sight):
    """A SIGHT as a number with a bit for each deed."""
    return sum([1 << deed for deed in sight])


def _is_hidden(works, wish, sight, guesses):
    def is_pair(value):
        return is_tuple(2, value) and is_place(works, value[0]) and is_below(len(wish[0]), value[1])

    def is_guess(value):
        return is_lot_of(is_pair, value) and len(value) > 0
    if not is_lot_of(is_guess, guesses):
        return False
    lot = {pairs: True for pairs in guesses}
    steps_at = guess_stepper(works, wish)
    if _grown(steps_at, sight, [first_pair(works)]) not in lot:
        return False
    for pairs in guesses:
        if not any([state in wish[1] for _, state in pairs]):
            return False
        for deed in sight:
            behind = [steps_at(pair)[deed] for pair in pairs if deed in steps_at(pair)]
            if len(behind) > 0 and _grown(steps_at, sight, behind) not in lot:
                return False
    return True


def _grown(steps_at, sight, pairs):
    """The ascending tuple of all pairs to which unseen deeds, perhaps none, lead from some."""
    lot = {}
    waiting = list(pairs)
    while len(waiting) > 0:
        pair = waiting.pop()
        if pair not in lot:
            lot[pair] = True
            waiting += [target for deed, target in steps_at(pair).items() if deed not in sight]
    return tuple(sorted(lot))


def _is_given(works, wish, sight, table, run):
    """Whether any value is a secret RUN that looks alike with secret ones alone."""
    def steps_of(pair):
        return table[pair]
    if walk(steps_of, first_pair(works), run) is None:
        return False
    known = {}
    pairs = _grown(steps_of, sight, [first_pair(works)])
    for deed in seen_of(sight, run):
        if (pairs, deed) not in known:
            known[(pairs, deed)] = _grown(steps_of, sight, [table[pair][deed] for pair in pairs if deed in table[pair]])
        pairs = known[(pairs, deed)]
    return not any([state in wish[1] for _, state in pairs])
