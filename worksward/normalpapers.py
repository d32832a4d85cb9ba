"""The check of papers on the NORMAL PART."""

from worksward.basics import are_ascending, is_lot, is_lot_of, is_number, is_tuple, need_paper, need_proof
from worksward.normals import estimate_table
from worksward.sights import coded, look_masks, mask_behind, need_sight, need_standings, number_of
from worksward.wishes import need_both


def check_normal(works, wish, sight, paper):
    """The word of a paper on the NORMAL PART."""
    need_both(works, wish)
    need_sight(works[0], sight)
    nodes, goes, outs = coded(need_standings(works, wish, 12))
    widths, jumps = look_masks(goes, outs, sight)
    # Of 6 STANDINGS no 200 ESTIMATES can be made.
    if len(nodes) > 6:
        estimate_table(len(nodes), widths[0], jumps)
    word = need_paper(paper, {"normal": 3})
    return need_proof(word, _holds(works, nodes, (widths[0], jumps), paper[1:]))


def _holds(works, nodes, masks, told):
    numbers = {node: number for number, node in enumerate(nodes)}
    good, lost = told

    def is_standing(value):
        return number_of(numbers, value) is not None

    def is_estimate(value):
        return is_tuple(2, value) and is_lot_of(is_standing, value[0]) and isinstance(value[1], bool)
    if not _are_rows(is_estimate, 2, good) or not _are_rows(is_estimate, 3, lost):
        return False
    if not all([is_lot(works[0], order) for _, order in good]):
        return False
    if not all([is_number(rank) and rank >= 0 for _, rank, _ in lost]):
        return False
    orders = {_mask_of(numbers, known): order for known, order in good}
    ways = {_mask_of(numbers, known): (rank, deed) for known, rank, deed in lost}
    first, jumps = masks
    if any([mask in ways for mask in orders]) or not (first in orders or first in ways):
        return False
    out = 1 << len(nodes)
    if not all([_is_good(works, jumps, orders, ways, mask, out) for mask in orders]):
        return False
    return all([_is_lost(works, jumps, ways, mask, out) for mask in ways])


def _are_rows(is_estimate, many, rows):
    """Whether it is an ascending tuple of tuples of so many things, each with an ESTIMATE first, none twice."""
    if not isinstance(rows, tuple):
        return False
    for row in rows:
        if not is_tuple(many, row) or not is_estimate(row[0]):
            return False
    return are_ascending([row[0] for row in rows])


def _mask_of(numbers, known):
    """An ESTIMATE as a mask."""
    mask = 1 << len(numbers) if known[1] else 0
    for standing in known[0]:
        mask += 1 << numbers[standing]
    return mask


def _is_good(works, jumps, orders, ways, mask, out):
    """Whether nothing is out, and the ORDER has just the deeds that lead to what is lost, none of them of FREE."""
    if mask >= out:
        return False
    order = []
    for deed, row in jumps.items():
        behind = mask_behind(row, mask)
        if behind in ways:
            order.append(deed)
        elif behind > 0 and behind not in orders:
            return False
    return tuple(order) == orders[mask] and not any([deed in works[2] for deed in order])


def _is_lost(works, jumps, ways, mask, out):
    """Whether something is out, or a deed of FREE leads to what is lost with a lesser RANK."""
    rank, deed = ways[mask]
    if mask >= out:
        return deed is None
    if not is_number(deed) or deed not in works[2] or deed not in jumps:
        return False
    behind = mask_behind(jumps[deed], mask)
    return behind in ways and ways[behind][0] < rank
