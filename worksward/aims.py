"""Whether some post brings WORKS to a GOAL by a SIGHT, within how many seen deeds, and papers on it."""

from worksward.basics import lots_of, spread
from worksward.errors import TooMany
from worksward.sights import need_sight, numbers_in
from worksward.works import first_place, has_goal, need_works, stepper


def can_bring(works, sight):
    """Whether some post brings WORKS to a GOAL."""
    return seen_at_most(works, sight) is not None


def seen_at_most(works, sight):
    """The least number of seen deeds within which some post always has WORKS at a GOAL, or None."""
    need_works(works)
    need_sight(works[0], sight)
    table = need_small(works)
    if has_goal(works, first_place(works)):
        return 0
    _, ranks = _ranked(works, sight, table)
    return ranks[1][0] if 1 in ranks else None


def aim_paper(works, sight):
    """A paper on whether some post brings WORKS to a GOAL."""
    need_works(works)
    need_sight(works[0], sight)
    table = need_small(works)
    if has_goal(works, first_place(works)):
        return ("brought", ())
    places = sorted(table)
    lots, ranks = _ranked(works, sight, table)
    if 1 in ranks:
        rows = [(_lot_of(places, mask), *ranks[mask]) for mask in ranks if mask > 0]
        return ("brought", tuple(sorted(rows)))
    field = _field(works, table)
    views = [_view(field, sight, order) for order in orders_of(works)]
    rows = []
    for mask in lots:
        if mask not in ranks:
            fails = [_fail(places, field, view, mask, ranks) for view in views]
            rows.append((_lot_of(places, mask), tuple(fails)))
    return ("never", tuple(sorted(rows)))


def need_small(works):
    """The table of steps of places; refuses more than 8 of them, then more than 4 deeds that can be forbidden."""
    table = spread(first_place(works), stepper(works), 8)
    need_few_orders(works)
    return table


def need_few_orders(works):
    """Refuses WORKS with more than 4 deeds that are not of FREE."""
    if works[0] - len(works[2]) > 4:
        raise TooMany(4)


def orders_of(works):
    """All ORDERS, as tuples ascend."""
    return lots_of([deed for deed in range(works[0]) if deed not in works[2]])


def _lot_of(places, mask):
    return tuple([places[number] for number in numbers_in(mask)])


def _field(works, table):
    """For each place, by its number as they ascend, a list of pairs of a deed and the number of the place behind.

    The number of a GOAL is one more than all others; its own list is None.
    """
    numbers = {place: number for number, place in enumerate(sorted(table))}
    codes = {place: len(table) if has_goal(works, place) else number for place, number in numbers.items()}
    field = []
    for place in numbers:
        if codes[place] == len(table):
            field.append(None)
        else:
            field.append([(deed, codes[target]) for deed, target in table[place].items()])
    return field


def _ranked(works, sight, table):
    """The LOTS that may come from that of the first place, and of those that are brought to a GOAL RANK and ORDER.

    LOTS are masks with a bit for each place, by its number; that of the first place is 1. 0, which is no LOT, is among
    those that are brought.
    """
    field = _field(works, table)
    can_be_done = {deed: True for steps in field if steps is not None for deed, _ in steps}
    deeds = [deed for deed in range(works[0]) if deed in can_be_done and deed not in works[2]]
    views = [_view(field, sight, order) for order in lots_of(deeds)]
    lots = {}
    waiting = [1]
    while len(waiting) > 0:
        mask = waiting.pop()
        if mask not in lots and mask > 0:
            lots[mask] = _ways(field, views, mask)
            for _, behind in lots[mask]:
                waiting += behind
    return lots, _ranks(lots)


def _ranks(lots):
    """For each LOT that is brought to a GOAL the number of seen deeds and an ORDER."""
    ranks = {}
    rank = 0
    while True:
        fresh = []
        for mask, ways in lots.items():
            if mask not in ranks:
                for order, behind in ways:
                    if all([target in ranks for target in behind]):
                        fresh.append((mask, order))
                        break
        if rank > 0 and len(fresh) == 0:
            return ranks
        for mask, order in fresh:
            ranks[mask] = (rank, order)
        # Behind a seen deed that leads to GOALS alone there is no LOT.
        ranks[0] = (0, ())
        rank += 1


def _view(field, sight, order):
    """What an ORDER makes of places: itself, the deeds that are seen and not forbidden; and by numbers of places:

    a dict, for each place, of those behind it by other deeds that are not forbidden, with such a deed; as masks the
    WIDTH of a LOT of each place alone, the places of a "still" and those of a "ring".
    """
    seen = [deed for deed in sight if deed not in order]
    hidden = [deed for deed in range(6) if deed not in order and deed not in sight]
    loose = []
    still = 0
    for number, steps in enumerate(field):
        ways = steps if steps is not None else []
        loose.append({target: deed for deed, target in ways if deed in hidden and target < len(field)})
        if steps is not None and all([deed in order for deed, _ in steps]):
            still += 1 << number
    widths = [_width(loose, number) for number in range(len(field))]
    rings = 0
    for number, targets in enumerate(loose):
        if any([widths[target] >> number & 1 for target in targets]):
            rings += 1 << number
    return order, seen, loose, widths, still, rings


def _width(loose, number):
    width = 1 << number
    waiting = [number]
    while len(waiting) > 0:
        at = waiting.pop()
        for target in loose[at]:
            if not width >> target & 1:
                width += 1 << target
                waiting.append(target)
    return width


def _width_of(widths, mask):
    """The WIDTH of a LOT."""
    width = 0
    for number in numbers_in(mask):
        width = width | widths[number]
    return width


def _ways(field, views, mask):
    """The ORDERS that do not fail with "still" or "ring" at a LOT, each with the LOTS behind seen deeds, 0 of none."""
    ways = []
    for order, seen, _, widths, still, rings in views:
        width = _width_of(widths, mask)
        if width & (still | rings) == 0:
            ways.append((order, list(_lots_behind(field, seen, width).values())))
    return ways


def _lots_behind(field, seen, width):
    """A dict of the LOTS behind seen deeds that can be done in a WIDTH, 0 where they lead to GOALS alone."""
    behind = {}
    for number in numbers_in(width):
        for deed, target in field[number]:
            if deed in seen:
                bit = 1 << target if target < len(field) else 0
                behind[deed] = behind.get(deed, 0) | bit
    return behind


def _fail(places, field, view, mask, ranks):
    """With what an ORDER fails at a LOT that no post brings to a GOAL."""
    _, seen, loose, widths, still, rings = view
    width = _width_of(widths, mask)
    if width & still:
        return ("still", places[numbers_in(width & still)[0]])
    if width & rings:
        number = numbers_in(width & rings)[0]
        return ("ring", places[number], _ring(loose, number))
    lots = _lots_behind(field, seen, width)
    return ("seen", min([deed for deed, lot in lots.items() if lot not in ranks]))


def _ring(loose, number):
    """The deeds that lead from a place, by its number, to it again."""
    rows = {}
    layer = [(number, ())]
    while number not in rows:
        following = []
        for at, row in layer:
            for target, deed in loose[at].items():
                if target not in rows:
                    rows[target] = row + (deed,)
                    following.append((target, rows[target]))
        layer = following
    return rows[number]
