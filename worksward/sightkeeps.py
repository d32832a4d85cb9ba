"""Which WISHES a post can keep by a SIGHT, papers on it, LEAST ORDERS and LEAST SIGHTS."""

from worksward.basics import first_rows, lots_of, need_row
from worksward.errors import Nothing, OutOfPlace, TooMany
from worksward.sights import coded, need_sight, need_standings, numbers_in, wished_mask
from worksward.wishes import need_both, pair_table


def can_keep_by(works, wish, sight):
    """Whether a WISH can be kept by a SIGHT."""
    need_both(works, wish)
    need_sight(works[0], sight)
    _, goes, outs = coded(need_standings(works, wish, 12))
    return _is_kept(works, goes, outs, sight)


def sight_paper(works, wish, sight):
    """A paper on whether a WISH can be kept by a SIGHT."""
    need_both(works, wish)
    need_sight(works[0], sight)
    table = need_standings(works, wish, 12)
    for standing, steps in table.items():
        for deed in works[2]:
            if deed in steps and steps[deed] is None:
                return ("free", first_rows(table)[standing] + (deed,))
    nodes, goes, outs = coded(table)
    couples, clash = _couples(goes, outs, sight)
    if clash is None:
        lot = sorted(set([*couples, *[(two, one) for one, two in couples]]))
        return ("kept", tuple([(nodes[one], nodes[two]) for one, two in lot]))
    return ("alike", *clash)


def least_order(works, wish, sight, look):
    """The LEAST ORDER behind a LOOK."""
    need_both(works, wish)
    need_sight(works[0], sight)
    need_row(works[0], look)
    nodes, goes, outs = coded(pair_table(works, wish))
    mask = wished_mask(goes, sight, look)
    if mask == 0:
        raise OutOfPlace("the look of no wished run")
    if len(nodes) > 12:
        raise TooMany(12)
    if not _is_kept(works, goes, outs, sight):
        raise Nothing("the wish cannot be kept by this sight")
    return tuple(sorted(set([deed for number in numbers_in(mask) for deed in outs[number]])))


def least_sights(works, wish):
    """The ascending tuple of all SIGHTS by which a WISH can be kept, but by no lesser one."""
    need_both(works, wish)
    _, goes, outs = coded(need_standings(works, wish, 12))
    if _is_freely_out(works, outs):
        return ()
    if not any(outs):
        return ((),)
    veils = _veils(goes, outs)
    sights = []
    masks = []
    for sight in sorted(lots_of(list(range(works[0]))), key=len):
        mask = sum([1 << deed for deed in sight])
        if all([mask & veil for veil in veils]) and not any([mask & other == other for other in masks]):
            masks.append(mask)
            sights.append(sight)
    return tuple(sorted(sights))


def _is_freely_out(works, outs):
    """Whether a deed of FREE leads out from a STANDING."""
    return any([deed in works[2] for ways in outs for deed in ways])


def _is_kept(works, goes, outs, sight):
    if not any(outs):
        return True
    if _is_freely_out(works, outs):
        return False
    _, clash = _couples(goes, outs, sight)
    return clash is None


def _couples(goes, outs, sight):
    """The couples of STANDINGS, each as its numbers ascend, of wished RUNS that look alike, each with two such RUNS.

    Ahead of them all, where they end early: two such RUNS and a deed as the paper with "alike" has them.
    """
    rows = {(0, 0): ((), ())}
    waiting = [(0, 0)]
    while len(waiting) > 0:
        couple = waiting.pop()
        one, two = couple
        row, other = rows[couple]
        for deed in outs[two]:
            if deed in goes[one]:
                return rows, (row, other, deed)
        for deed in outs[one]:
            if deed in goes[two]:
                return rows, (other, row, deed)
        for deed, after, then, is_first, is_second in _moves(goes, sight, one, two):
            target = (after, then) if after <= then else (then, after)
            if target not in rows:
                longer = row + (deed,) if is_first else row
                others = other + (deed,) if is_second else other
                rows[target] = (longer, others) if after <= then else (others, longer)
                waiting.append(target)
    return rows, None


def _moves(goes, sight, one, two):
    """The deeds by which two RUNS that look alike go on doing so, the numbers behind, and whose deeds they are."""
    moves = []
    for deed, after in goes[one].items():
        if deed not in sight:
            moves.append((deed, after, two, True, False))
        elif deed in goes[two]:
            moves.append((deed, after, goes[two][deed], True, True))
    if one != two:
        for deed, after in goes[two].items():
            if deed not in sight:
                moves.append((deed, one, after, False, True))
    return moves


def _veils(goes, outs):
    """Masks of deeds; a WISH can be kept by just the SIGHTS that see a deed of each of them.

    Each has the deeds that two RUNS as the paper with "alike" has them do apart: these look alike if none of them is
    seen. Deeds that both do at a time need not be unseen.
    """
    veils = []
    known = {}
    layers = [[(0, 0, 0)], [], [], [], [], [], []]
    for many in range(7):
        waiting = list(layers[many])
        while len(waiting) > 0:
            one, two, veil = waiting.pop()
            masks = known.setdefault((one, two), [])
            if any([veil & mask == mask for mask in [*masks, *veils]]):
                continue
            masks.append(veil)
            if _do_clash(goes, outs, one, two):
                veils.append(veil)
                continue
            for move in _veiled_moves(goes, one, two, veil):
                if move[2] == veil:
                    waiting.append(move)
                else:
                    layers[many + 1].append(move)
    return veils


def _do_clash(goes, outs, one, two):
    """Whether a deed goes on from one of two STANDINGS, and leads out from the other one."""
    if any([deed in goes[one] for deed in outs[two]]):
        return True
    return any([deed in goes[two] for deed in outs[one]])


def _veiled_moves(goes, one, two, veil):
    """The couples behind two STANDINGS, the lesser number first, each with all deeds that are done apart."""
    moves = []
    for deed, after in goes[one].items():
        moves.append((min(after, two), max(after, two), veil | 1 << deed))
        if deed in goes[two]:
            then = goes[two][deed]
            moves.append((min(after, then), max(after, then), veil))
    for deed, then in goes[two].items():
        moves.append((min(one, then), max(one, then), veil | 1 << deed))
    return moves
