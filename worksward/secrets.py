"""Secret RUNS by a WISH, which SIGHTS hide them, GUESSES, GREATEST MASKS, and papers on them."""

from worksward.basics import first_rows, lots_of, need_row, spread
from worksward.errors import OutOfPlace, TooMany
from worksward.sights import coded, look_masks, mask_behind, need_sight, numbers_in, wished_mask
from worksward.wishes import first_pair, need_both
from worksward.works import need_run, stepper


def is_secret(works, wish, run):
    """Whether a RUN is secret."""
    need_both(works, wish)
    need_run(works, run)
    state = 0
    for deed in run:
        state = wish[0][state][deed]
    return state not in wish[1]


def does_hide(works, wish, sight):
    """Whether a SIGHT hides the secret."""
    need_both(works, wish)
    need_sight(works[0], sight)
    nodes, goes, _ = coded(need_guessed(works, wish))
    return _hides(goes, _open_mask(wish, nodes), sight)


def guess(works, wish, sight, look):
    """The GUESS of a LOOK."""
    need_both(works, wish)
    need_sight(works[0], sight)
    need_row(works[0], look)
    nodes, goes, _ = coded(spread(first_pair(works), guess_stepper(works, wish)))
    mask = wished_mask(goes, sight, look)
    if mask == 0:
        raise OutOfPlace("the look of no run")
    if len(nodes) > 8:
        raise TooMany(8)
    return tuple([nodes[number] for number in numbers_in(mask)])


def secret_paper(works, wish, sight):
    """A paper on whether a SIGHT hides the secret."""
    need_both(works, wish)
    need_sight(works[0], sight)
    nodes, goes, _ = coded(need_guessed(works, wish))
    good = _open_mask(wish, nodes)
    if _hides(goes, good, sight):
        return ("hidden", _table_of(nodes, goes, sight))
    return ("given", _given(goes, good, sight))


def greatest_masks(works, wish):
    """The GREATEST MASKS of a WISH."""
    need_both(works, wish)
    nodes, goes, _ = coded(need_guessed(works, wish))
    hiding, _ = _border(works, goes, _open_mask(wish, nodes))
    return tuple(sorted(hiding))


def mask_paper(works, wish):
    """A paper on the GREATEST MASKS of a WISH."""
    need_both(works, wish)
    nodes, goes, _ = coded(need_guessed(works, wish))
    good = _open_mask(wish, nodes)
    hiding, giving = _border(works, goes, good)
    hide = [(sight, _table_of(nodes, goes, sight)) for sight in sorted(hiding)]
    give = [(sight, _given(goes, good, sight)) for sight in sorted(giving)]
    return ("masks", tuple(hide), tuple(give))


def guess_stepper(works, wish):
    """A function that gives, for a pair of a place and a state, good or not, a dict of deeds with the pairs behind."""
    steps_at = stepper(works)

    def pairs_at(pair):
        row = wish[0][pair[1]]
        return {deed: (place, row[deed]) for deed, place in steps_at(pair[0]).items()}
    return pairs_at


def need_guessed(works, wish):
    """The table of steps of the pairs behind all RUNS; refuses more than 8 of them."""
    return spread(first_pair(works), guess_stepper(works, wish), 8)


def _open_mask(wish, nodes):
    """The pairs with a good state, as a mask."""
    mask = 0
    for number, (_, state) in enumerate(nodes):
        if state in wish[1]:
            mask += 1 << number
    return mask


def _table_of(nodes, goes, sight):
    """The GUESSES that come, as a paper has them."""
    widths, jumps = look_masks(goes, [()] * len(goes), sight)

    def steps_at(mask):
        behind = {deed: mask_behind(row, mask) for deed, row in jumps.items()}
        return {deed: target for deed, target in behind.items() if target > 0}
    table = [tuple([nodes[number] for number in numbers_in(mask)]) for mask in spread(widths[0], steps_at)]
    return tuple(sorted(table))


def _hides(goes, good, sight):
    """Whether each GUESS that comes has a pair of those that are good."""
    if good == (1 << len(goes)) - 1:
        return True
    widths, jumps = look_masks(goes, [()] * len(goes), sight)
    known = {0: True, widths[0]: True}
    waiting = [widths[0]]
    while len(waiting) > 0:
        mask = waiting.pop()
        if mask & good == 0:
            return False
        for row in jumps.values():
            behind = mask_behind(row, mask)
            if behind not in known:
                known[behind] = True
                waiting.append(behind)
    return True


def _given(goes, good, sight):
    """A secret RUN that looks alike with secret ones alone, if there is one, otherwise None."""
    widths, jumps = look_masks(goes, [()] * len(goes), sight)

    def steps_at(node):
        number, mask = node
        behind = {deed: mask_behind(row, mask) for deed, row in jumps.items()}
        return {deed: (to, behind.get(deed, mask)) for deed, to in goes[number].items()}
    runs = first_rows(spread((0, widths[0]), steps_at))
    for node, run in runs.items():
        if node[1] & good == 0:
            return run
    return None


def _border(works, goes, good):
    """The GREATEST MASKS, and all least SIGHTS that do not hide the secret."""
    can_be_done = {deed: True for steps in goes for deed in steps}
    idle = [deed for deed in range(works[0]) if deed not in can_be_done]
    hiding = []
    giving = []
    for sight in sorted(lots_of(sorted(can_be_done)), key=len, reverse=True):
        if any([_is_within(sight, other) for other in hiding]) or any([_is_within(other, sight) for other in giving]):
            continue
        if _hides(goes, good, sight):
            # A deed that never comes may be seen.
            hiding.append(tuple(sorted([*sight, *idle])))
        else:
            giving.append(_lessened(goes, good, sight))
    return hiding, giving


def _lessened(goes, good, sight):
    """A least SIGHT within one that does not hide the secret."""
    least = sight
    for deed in sight:
        less = tuple([other for other in least if other != deed])
        if not _hides(goes, good, less):
            least = less
    return least


def _is_within(sight, other):
    return all([deed in other for deed in sight])
