"""The check of papers on whether a WISH can be kept over a WIRE, and what it shares with what tells them.

SPANS that come stand here as numbers, as they ascend, so that the first one is 0; lots of them are masks.
"""

from worksward.basics import is_below, need_paper, need_proof
from worksward.sightkeeppapers import leads_freely_out
from worksward.sights import mask_behind
from worksward.wires import need_spans, need_wire_of, told_by
from worksward.wishes import need_both, pair_behind, pair_stepper, pair_table


def check_wire(works, wish, wire, paper):
    """The word of a paper on whether a WISH can be kept over a WIRE."""
    need_both(works, wish)
    need_wire_of(works, wire)
    return judged_wire(works, wish, wire, paper)


def judged_wire(works, wish, wire, paper):
    """The word of a paper, the other arguments being such; refuses too many SPANS, then one that does not hold."""
    steps_at = pair_stepper(works, wish)
    table = need_spans(works, steps_at, wire)
    word = need_paper(paper, {"kept": 2, "free": 2, "alike": 4})
    if word == "kept":
        return need_proof(word, _is_kept_table(works, steps_at, table, paper[1]))
    if word == "free":
        return need_proof(word, leads_freely_out(works, wish, pair_table(works, wish), paper[1]))
    return need_proof(word, _are_alike(works, wish, steps_at, wire, paper[1:]))


def _are_alike(works, wish, steps_at, wire, told):
    one, other, deed = told
    ones = told_by(works, wire, one)
    others = told_by(works, wire, other)
    if ones is None or others is None or ones[1] != others[1] or not is_below(works[0], deed):
        return False
    standing = pair_behind(works, wish, ones[0])
    beside = pair_behind(works, wish, others[0])
    if standing is None or beside is None:
        return False
    steps = steps_at(beside)
    return steps_at(standing).get(deed) is not None and deed in steps and steps[deed] is None


def _is_kept_table(works, steps_at, table, couples):
    nodes = sorted(table)
    clashes = clashes_of(works, steps_at, nodes)
    # All SPANS come in couples of themselves, so none may have a deed of FREE that leads out.
    if clashes is None:
        return False
    rows = _rows_of(nodes, couples)
    if rows is None or rows[0] & 1 == 0:
        return False
    quiet, heard = moves_of(nodes, table)
    widths, jumps = masks_of(quiet, heard)
    for number, row in enumerate(rows):
        if row > 0:
            if row & clashes[number] or mask_behind(widths, row) & ~row:
                return False
            for target in quiet[number]:
                if row & ~rows[target]:
                    return False
            for deed, targets in heard[number].items():
                behind = mask_behind(jumps[deed], row)
                if any([behind & ~rows[target] for target in targets]):
                    return False
    return True


def _rows_of(nodes, couples):
    """For each SPAN a mask of those behind it in couples; None if any value is no ascending tuple of such couples."""
    numbers = {node: number for number, node in enumerate(nodes)}
    if not isinstance(couples, tuple):
        return None
    rows = [0] * len(nodes)
    last = -1
    for couple in couples:
        if not isinstance(couple, tuple) or len(couple) != 2:
            return None
        one = _number_of(numbers, couple[0])
        two = _number_of(numbers, couple[1])
        if one is None or two is None or one << 6 | two <= last:
            return None
        last = one << 6 | two
        rows[one] += 1 << two
    return rows


def _number_of(numbers, value):
    """The number of any value that is one of the SPANS in a dict of numbers, otherwise None."""
    if not isinstance(value, tuple) or len(value) != 4:
        return None
    place, state, way, gone = value
    if not isinstance(place, tuple) or not isinstance(way, tuple):
        return None
    for part in (*place, state, *way, gone):
        # As a key True would be 1, and a list could be none.
        if not isinstance(part, int) or part is True or part is False:
            return None
    return numbers.get(value)


def clashes_of(works, steps_at, nodes):
    """For each SPAN a mask of those from which a deed leads out that goes on from it; None if one of FREE leads out."""
    outs = [0] * works[0]
    goes = []
    for number, (place, state, _, _) in enumerate(nodes):
        ways = []
        for deed, target in steps_at((place, state)).items():
            if target is not None:
                ways.append(deed)
            elif deed in works[2]:
                return None
            else:
                outs[deed] += 1 << number
        goes.append(ways)
    clashes = []
    for ways in goes:
        mask = 0
        for deed in ways:
            mask = mask | outs[deed]
        clashes.append(mask)
    return clashes


def moves_of(nodes, table):
    """For each SPAN the numbers behind events at which nothing is heard; and a dict of those behind each heard deed."""
    numbers = {node: number for number, node in enumerate(nodes)}
    quiet = []
    heard = []
    for node in nodes:
        silent = []
        told = {}
        for _, _, deed, target in table[node]:
            if deed is None:
                silent.append(numbers[target])
            elif deed in told:
                told[deed].append(numbers[target])
            else:
                told[deed] = [numbers[target]]
        quiet.append(silent)
        heard.append(told)
    return quiet, heard


def masks_of(quiet, heard):
    """The same as masks: a list of what is right behind each SPAN, nothing being heard; and one for each heard deed."""
    widths = [_mask_of(targets) for targets in quiet]
    jumps = {}
    for number, told in enumerate(heard):
        for deed, targets in told.items():
            if deed not in jumps:
                jumps[deed] = [0] * len(heard)
            jumps[deed][number] = _mask_of(targets)
    return widths, jumps


def _mask_of(numbers):
    mask = 0
    for number in numbers:
        mask = mask | 1 << number
    return mask
