"""Which WISHES can be kept over a WIRE, over which WIRES one can be, and papers on it."""

from worksward.basics import first_rows
from worksward.errors import BadPaper, OutOfPlace
from worksward.sights import mask_behind, numbers_in
from worksward.wirepapers import clashes_of, judged_wire, masks_of, moves_of
from worksward.wires import is_wire_sight, need_spans, need_wire_of
from worksward.wishes import need_both, pair_stepper, pair_table


def can_keep_over(works, wish, wire):
    """Whether a WISH can be kept over a WIRE."""
    need_both(works, wish)
    need_wire_of(works, wire)
    return _is_kept(works, pair_stepper(works, wish), wire)


def wire_paper(works, wish, wire):
    """A paper on whether a WISH can be kept over a WIRE."""
    need_both(works, wish)
    need_wire_of(works, wire)
    steps_at = pair_stepper(works, wish)
    table = need_spans(works, steps_at, wire)
    nodes = sorted(table)
    clashes = clashes_of(works, steps_at, nodes)
    if clashes is None:
        return ("free", _run_freely_out(works, wish))
    rows = _rows(nodes, table, clashes)
    if rows is None:
        return ("alike", *_clash(steps_at, nodes, table, clashes))
    couples = []
    # Many SPANS have the same others.
    lots = {}
    for one, row in zip(nodes, rows):
        if row not in lots:
            lots[row] = [nodes[number] for number in numbers_in(row)]
        couples += [(one, two) for two in lots[row]]
    return ("kept", tuple(couples))


def keeping_wires(works, wish, sight):
    """The ascending tuple of all pairs (DELAY, LOSS) such that a WISH can be kept over the WIRE with a SIGHT."""
    need_both(works, wish)
    if not is_wire_sight(works, sight):
        raise OutOfPlace("sight is not an ascending tuple of at most 3 deeds")
    steps_at = pair_stepper(works, wish)
    if _is_kept(works, steps_at, (sight, 2, 2)):
        return tuple([(delay, loss) for delay in range(3) for loss in range(3)])
    found = []
    bound = 3
    for delay in range(3):
        loss = 0
        # What cannot be kept by less DELAY and LOSS cannot be by more.
        while loss < bound and _is_kept(works, steps_at, (sight, delay, loss)):
            found.append((delay, loss))
            loss += 1
        bound = loss
    return tuple(found)


def paper_for_less(works, wish, wire, less, paper):
    """The paper over a WIRE with the same SIGHT and no more DELAY and LOSS that one with "kept" becomes."""
    need_both(works, wish)
    need_wire_of(works, wire)
    need_wire_of(works, less)
    if less[0] != wire[0] or less[1] > wire[1] or less[2] > wire[2]:
        raise OutOfPlace("less is not a wire with the same sight and no more delay and loss")
    couples = _need_kept(works, wish, wire, paper)
    table = need_spans(works, pair_stepper(works, wish), less)
    return ("kept", tuple([(one, two) for one, two in couples if one in table and two in table]))


def paper_for_sight(works, wish, wire, paper):
    """The paper on a SIGHT that one with "kept" over a WIRE with DELAY 0 and LOSS 0 becomes."""
    need_both(works, wish)
    need_wire_of(works, wire)
    if wire[1:] != (0, 0):
        raise OutOfPlace("not a wire with delay 0 and loss 0")
    couples = _need_kept(works, wish, wire, paper)
    return ("kept", tuple([(one[:2], two[:2]) for one, two in couples]))


def _need_kept(works, wish, wire, paper):
    """The couples of SPANS of a paper with "kept"; refuses another one."""
    if judged_wire(works, wish, wire, paper) != "kept":
        raise BadPaper("form")
    return paper[1]


def _is_kept(works, steps_at, wire):
    """Whether a WISH can be kept over a WIRE; refuses too many SPANS."""
    table = need_spans(works, steps_at, wire)
    nodes = sorted(table)
    clashes = clashes_of(works, steps_at, nodes)
    if clashes is None:
        return False
    return not any(clashes) or _rows(nodes, table, clashes) is not None


def _run_freely_out(works, wish):
    """The first RUN that leads out by a deed of FREE."""
    table = pair_table(works, wish)
    for pair, run in first_rows(table).items():
        for deed in works[2]:
            if deed in table[pair] and table[pair][deed] is None:
                return run + (deed,)
    return None


def _rows(nodes, table, clashes):
    """For each SPAN a mask of those that come with the same NEWS; None if a deed goes on from one, and leads out."""
    quiet, heard = moves_of(nodes, table)
    widths, jumps = _closed(quiet, heard)
    rows = [0] * len(nodes)
    known = {}
    more = {0: widths[0]}
    waiting = [0]
    while len(waiting) > 0:
        number = waiting.pop()
        fresh = more[number] & ~rows[number]
        if fresh & clashes[number]:
            return None
        rows[number] = rows[number] | fresh
        more[number] = 0
        found = [(target, fresh) for target in quiet[number]]
        for deed, targets in heard[number].items():
            if (deed, fresh) not in known:
                known[(deed, fresh)] = mask_behind(jumps[deed], fresh)
            found += [(target, known[(deed, fresh)]) for target in targets]
        for target, mask in found:
            old = more.get(target, 0)
            if mask & ~(rows[target] | old):
                if old == 0:
                    waiting.append(target)
                more[target] = old | mask
    return rows


def _closed(quiet, heard):
    """Masks of what comes from each SPAN while nothing is heard, itself included.

    Beside them, for each deed that is heard, masks of what comes by it, and while nothing is heard behind it.
    """
    widths, jumps = masks_of(quiet, heard)
    widths = [width | 1 << number for number, width in enumerate(widths)]
    for number in range(len(widths)):
        through = widths[number]
        if len(quiet[number]) > 0:
            widths = [width | through if width >> number & 1 else width for width in widths]
    return widths, {deed: [mask_behind(widths, mask) for mask in row] for deed, row in jumps.items()}


def _clash(steps_at, nodes, table, clashes):
    """ONE, OTHER and DEED of a paper with "alike"; there must be one.

    A couple of SPANS is written as one number, six bits for each.
    """
    numbers = {node: number for number, node in enumerate(nodes)}
    events = []
    for node in nodes:
        events.append([((word, deed), heard, numbers[target]) for word, deed, heard, target in table[node]])
    ahead = {0: None}
    layer = [0]
    while len(layer) > 0:
        following = []
        for couple in layer:
            one = couple >> 6
            two = couple & 63
            if clashes[one] >> two & 1:
                return (*_courses_to(ahead, couple), _parting_deed(steps_at, nodes[one], nodes[two]))
            for target, event, other in _couples_behind(events[one], events[two], couple):
                if target not in ahead:
                    ahead[target] = (couple, event, other)
                    following.append(target)
        layer = following
    return None


def _couples_behind(events, others, couple):
    """The couples behind one with the same NEWS still, each with the events that lead to it, or None of one of them."""
    found = []
    for event, heard, target in events:
        if heard is None:
            found.append((target << 6 | couple & 63, event, None))
            continue
        for other, deed, to in others:
            if deed == heard:
                found.append((target << 6 | to, event, other))
    for other, deed, to in others:
        if deed is None:
            found.append((couple - (couple & 63) + to, None, other))
    return found


def _courses_to(ahead, couple):
    """The two COURSES that lead to a couple."""
    ones = []
    others = []
    while ahead[couple] is not None:
        couple, event, other = ahead[couple]
        if event is not None:
            ones.append(event)
        if other is not None:
            others.append(other)
    return tuple(ones[::-1]), tuple(others[::-1])


def _parting_deed(steps_at, one, two):
    """A deed that goes on from one SPAN, and leads out from the other one."""
    steps = steps_at(one[:2])
    others = steps_at(two[:2])
    return [deed for deed in others if others[deed] is None and steps.get(deed) is not None][0]
