"""POSTS: what several posts can keep together, papers on it, SURE ORDERS and the TEAM of these."""

from worksward.basics import is_below, is_lot, is_tuple, need_row, spread
from worksward.errors import BadPost, Nothing, OutOfPlace, TooMany
from worksward.sights import coded, look_masks, mask_behind, need_standings, numbers_in, wished_mask
from worksward.wishes import need_both, pair_table
from worksward.works import need_works


def need_posts(works, thing):
    """The thing itself; refuses what is not POSTS of the WORKS."""
    need_works(works)
    return need_posts_of(works, thing)


def need_posts_of(works, thing):
    """The thing itself, the WORKS being such; refuses what is not POSTS."""
    if not isinstance(thing, tuple) or not 2 <= len(thing) <= 3:
        raise BadPost("form")
    for number, post in enumerate(thing):
        if not _is_post(works, post):
            raise BadPost(number)
    return thing


def _is_post(works, post):
    if not is_tuple(2, post) or not is_lot(works[0], post[0]) or not is_lot(works[0], post[1]):
        return False
    return not any([deed in works[2] for deed in post[1]])


def can_post(works, wish, posts):
    """Whether POSTS can keep a WISH."""
    need_both(works, wish)
    need_posts_of(works, posts)
    _, goes, outs = coded(need_standings(works, wish, 8))
    return _clash(goes, outs, posts) is None


def post_paper(works, wish, posts):
    """A paper on whether POSTS can keep a WISH."""
    need_both(works, wish)
    need_posts_of(works, posts)
    nodes, goes, outs = coded(need_standings(works, wish, 8))
    clash = _clash(goes, outs, posts)
    if clash is not None:
        return ("lost", *clash)
    moves = row_moves(goes, [sight for sight, _ in posts])
    rows, _ = _rows(goes, [()] * len(goes), moves)
    return ("kept", tuple([tuple([nodes[row >> shift & 7] for shift in moves[0]]) for row in sorted(rows)]))


def sure_order(works, wish, posts, number, look):
    """The SURE ORDER of a post behind a LOOK."""
    need_both(works, wish)
    need_posts_of(works, posts)
    if not is_below(len(posts), number):
        raise OutOfPlace("not the number of a post")
    need_row(works[0], look)
    sight, held = posts[number]
    _, goes, outs = coded(pair_table(works, wish))
    mask = wished_mask(goes, sight, look)
    if mask == 0:
        raise OutOfPlace("the look of no wished run")
    if len(goes) > 8:
        raise TooMany(8)
    return _order_at(goes, outs, held, mask)


def team_of(works, wish, posts):
    """The TEAM of the SURE ORDERS of POSTS that can keep a WISH."""
    need_both(works, wish)
    need_posts_of(works, posts)
    _, goes, outs = coded(need_standings(works, wish, 8))
    if _clash(goes, outs, posts) is not None:
        raise Nothing("the posts cannot keep the wish")
    return tuple([_mind(goes, outs, sight, held) for sight, held in posts])


def _order_at(goes, outs, held, mask):
    """The deeds that are held, lead out from a STANDING of a mask, and go on from none."""
    numbers = numbers_in(mask)
    order = []
    for deed in held:
        if any([deed in outs[number] for number in numbers]) and not any([deed in goes[number] for number in numbers]):
            order.append(deed)
    return tuple(order)


def _mind(goes, outs, sight, held):
    """The mind of a post by its SURE ORDERS."""
    widths, jumps = look_masks(goes, [()] * len(goes), sight)

    def steps_at(mask):
        steps = {}
        for deed, row in jumps.items():
            behind = mask_behind(row, mask)
            # The pair stays where no wished RUN has such a LOOK.
            steps[deed] = behind if behind > 0 else mask
        return steps
    table = spread(widths[0], steps_at, 4)
    numbers = {mask: number for number, mask in enumerate(table)}
    pairs = []
    for mask, steps in table.items():
        pairs.append((_order_at(goes, outs, held, mask), tuple([numbers[target] for target in steps.values()])))
    return tuple(pairs)


def _clash(goes, outs, posts):
    """RUN and OTHERS of a paper with "lost", or None if POSTS can keep the WISH."""
    for numbers, lost in _lost_by(outs, posts).items():
        # What the other posts see does not matter for the deeds that these ones hold.
        sights = [posts[number][0] for number in numbers]
        moves = row_moves(goes, sights)
        rows, found = _rows(goes, lost, moves)
        if found is not None:
            runs = _runs_to(rows, found[0], sights)
            others = [None] * len(posts)
            for number, run in zip(numbers, runs[1:]):
                others[number] = run
            return (runs[0] + found[1:], tuple(others))
    return None


def _lost_by(outs, posts):
    """For the numbers of posts that hold deeds, just they, a list of such deeds that lead out from each STANDING."""
    lots = {}
    for at, ways in enumerate(outs):
        for deed in ways:
            numbers = tuple([number for number, post in enumerate(posts) if deed in post[1]])
            if numbers not in lots:
                lots[numbers] = [[] for _ in outs]
            lots[numbers][at].append(deed)
    return lots


def row_moves(goes, sights):
    """How rows of STANDINGS go on: of a RUN, first, and of one more for each SIGHT that looks alike.

    A row is written as one number, three bits for each STANDING, so that rows ascend as such numbers do. These are the
    places of the bits; for each first STANDING a list of triples of a deed, what it adds to the number, and a list of
    pairs, for each one that sees it, of the place of its bits and what it adds for each STANDING, or None; and for each
    other place a list with a list for each STANDING of pairs of a deed that is not seen and what it adds.
    """
    shifts = [3 * at for at in range(len(sights), -1, -1)]
    joint = []
    for number, steps in enumerate(goes):
        ways = []
        for deed, target in steps.items():
            seers = [(shift, _changes(goes, deed, shift)) for shift, sight in zip(shifts[1:], sights) if deed in sight]
            ways.append((deed, target - number << shifts[0], seers))
        joint.append(ways)
    alone = []
    for shift, sight in zip(shifts[1:], sights):
        ways = []
        for number, steps in enumerate(goes):
            ways.append([(deed, target - number << shift) for deed, target in steps.items() if deed not in sight])
        alone.append(ways)
    return shifts, joint, alone


def _changes(goes, deed, shift):
    return [steps[deed] - number << shift if deed in steps else None for number, steps in enumerate(goes)]


def rows_behind(moves, row):
    """The rows behind one, each with a deed, and 0 where all do it that see it, else the place of the one that does."""
    shifts, joint, alone = moves
    found = []
    for deed, change, seers in joint[row >> shifts[0]]:
        target = row + change
        for shift, changes in seers:
            more = changes[row >> shift & 7]
            if more is None:
                break
            target += more
        else:
            found.append((target, deed, 0))
    for at, ways in enumerate(alone, start=1):
        for deed, change in ways[row >> shifts[at] & 7]:
            found.append((row + change, deed, at))
    return found


def _rows(goes, lost, moves):
    """The rows that come, as numbers, each with the one ahead and how it comes from it.

    Beside them, if there is such a row, the one met from whose first STANDING a lost deed leads out by which all others
    go on, and this deed.
    """
    shifts = moves[0]
    rows = {0: None}
    layer = [0]
    while len(layer) > 0:
        following = []
        for row in layer:
            for deed in lost[row >> shifts[0]]:
                if all([deed in goes[row >> shift & 7] for shift in shifts[1:]]):
                    return rows, (row, deed)
            for target, deed, at in rows_behind(moves, row):
                if target not in rows:
                    rows[target] = (row, deed, at)
                    following.append(target)
        layer = following
    return rows, None


def _runs_to(rows, row, sights):
    """The RUNS that lead to a row of STANDINGS."""
    runs = [()] + [() for _ in sights]
    while rows[row] is not None:
        row, deed, at = rows[row]
        if at > 0:
            runs[at] = (deed,) + runs[at]
        else:
            runs[0] = (deed,) + runs[0]
            for number, sight in enumerate(sights, start=1):
                if deed in sight:
                    runs[number] = (deed,) + runs[number]
    return runs
