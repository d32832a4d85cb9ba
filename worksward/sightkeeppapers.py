"""The check of papers on whether a WISH can be kept by a SIGHT."""

from worksward.basics import are_ascending, is_below, need_paper, need_proof
from worksward.sights import coded, need_sight, need_standings, number_of, seen_of
from worksward.wishes import need_both, pair_behind


def check_sight(works, wish, sight, paper):
    """The word of a paper on whether a WISH can be kept by a SIGHT."""
    need_both(works, wish)
    need_sight(works[0], sight)
    table = need_standings(works, wish, 12)
    word = need_paper(paper, {"kept": 2, "free": 2, "alike": 4})
    if word == "kept":
        return need_proof(word, _is_kept_table(works, sight, table, paper[1]))
    if word == "free":
        return need_proof(word, leads_freely_out(works, wish, table, paper[1]))
    return need_proof(word, _are_alike(works, wish, sight, table, paper[1:]))


def leads_freely_out(works, wish, table, run):
    """Whether any value is a RUN that leads out by a deed of FREE."""
    if not isinstance(run, tuple) or len(run) == 0 or not is_below(works[0], run[-1]) or run[-1] not in works[2]:
        return False
    standing = pair_behind(works, wish, run[:-1])
    return standing is not None and run[-1] in table[standing] and table[standing][run[-1]] is None


def _are_alike(works, wish, sight, table, told):
    one, other, deed = told
    standing = pair_behind(works, wish, one)
    beside = pair_behind(works, wish, other)
    if standing is None or beside is None or not is_below(works[0], deed):
        return False
    if table[standing].get(deed) is None or deed not in table[beside] or table[beside][deed] is not None:
        return False
    return seen_of(sight, one) == seen_of(sight, other)


def _is_kept_table(works, sight, table, couples):
    nodes, goes, outs = coded(table)
    # All STANDINGS come in couples of themselves, so none may have a deed of FREE that leads out.
    if any([deed in works[2] for ways in outs for deed in ways]):
        return False
    codes = _codes_of(nodes, couples)
    if codes is None or codes[:1] != [0] or not are_ascending(codes):
        return False
    lot = {code: True for code in codes}
    return all([_goes_on(goes, outs, sight, code, lot) for code in codes])


def _codes_of(nodes, couples):
    """The couples as numbers, four bits for each STANDING; None if any value is no tuple of couples of such."""
    numbers = {node: number for number, node in enumerate(nodes)}
    if not isinstance(couples, tuple):
        return None
    codes = []
    for couple in couples:
        if not isinstance(couple, tuple) or len(couple) != 2:
            return None
        one = number_of(numbers, couple[0])
        two = number_of(numbers, couple[1])
        if one is None or two is None:
            return None
        codes.append(one << 4 | two)
    return codes


def _goes_on(goes, outs, sight, code, lot):
    """Whether all couples that one asks for are in the lot, and no deed goes on from the first and leads out."""
    one = code >> 4
    two = code & 15
    for deed, target in goes[one].items():
        if deed in outs[two]:
            return False
        if deed not in sight:
            if target << 4 | two not in lot:
                return False
        elif deed in goes[two] and target << 4 | goes[two][deed] not in lot:
            return False
    for deed, target in goes[two].items():
        if deed not in sight and one << 4 | target not in lot:
            return False
    return True
