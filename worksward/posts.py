"""POSTS: what several posts can keep together, papers on it, SURE ORDERS and the TEAM of these."""

from worksward.basics import is_below, is_lot, is_tuple, need_row, spread
from worksward.errors import BadPost, Nothing, OutOfPlace, TooMany
from worksward.sights import coded, look_masks, mask_behind, need_standings, numbers_in, wished_mask
from worksward.wishes import need_both, pair_table
from worksward.works import need_works


def need_posts(works, thing):
    """The thing itself; refuses what is not POSTS of the WORKS."""
    need_works(works)
    return need_posts_of(works, thing)


def need_posts_of(works, thing):
    """The thing itself, the WORKS being such; refuses what is not POSTS."""
    if not isinstance(thing, tuple) or not 2 <= len(thing) <= 3:
        raise BadPost("form")
    for number, post in enumerate(thing):
        if not _is_post(works, post):
            raise BadPost(number)
    return thing


def _is_post(works, post):
    if not is_tuple(2, post) or not is_lot(works[0], post[0]) or not is_lot(works[0], post[1]):
        return False
    return not any([deed in works[2] for deed in post[1]])


def can_post(works, wish, posts):
    """Whether POSTS can keep a WISH."""
    need_both(works, wish)
    need_posts_of(works, posts)
    _, goes, outs = coded(need_standings(works, wish, 8))
    return _clash(goes, outs, posts) is None


def post_paper(works, wish, posts):
    """A paper on whether POSTS can keep a WISH."""
    need_both(works, wish)
    need_posts_of(works, posts)
    nodes, goes, outs = coded(need_standings(works, wish, 8))
    clash = _clash(goes, outs, posts)
    if clash is not None:
        return ("lost", *clash)
    rows, _ = _rows(goes, [[] for _ in goes], [sight for sight, _ in posts])
    return ("kept", tuple([tuple([nodes[number] for number in row]) for row in sorted(rows)]))


def sure_order(works, wish, posts, number, look):
    """The SURE ORDER of a post behind a LOOK."""
    need_both(works, wish)
    need_posts_of(works, posts)
    if not is_below(len(posts), number):
        raise OutOfPlace("not the number of a post")
    need_row(works[0], look)
    sight, held = posts[number]
    _, goes, outs = coded(pair_table(works, wish))
    mask = wished_mask(goes, sight, look)
    if mask == 0:
        raise OutOfPlace("the look of no wished run")
    if len(goes) > 8:
        raise TooMany(8)
    return _order_at(goes, outs, held, mask)


def team_of(works, wish, posts):
    """The TEAM of the SURE ORDERS of POSTS that can keep a WISH."""
    need_both(works, wish)
    need_posts_of(works, posts)
    _, goes, outs = coded(need_standings(works, wish, 8))
    if _clash(goes, outs, posts) is not None:
        raise Nothing("the posts cannot keep the wish")
    return tuple([_mind(goes, outs, sight, held) for sight, held in posts])


def _order_at(goes, outs, held, mask):
    """The deeds that are held, lead out from a STANDING of a mask, and go on from none."""
    numbers = numbers_in(mask)
    order = []
    for deed in held:
        if any([deed in outs[number] for number in numbers]) and not any([deed in goes[number] for number in numbers]):
            order.append(deed)
    return tuple(order)


def _mind(goes, outs, sight, held):
    """The mind of a post by its SURE ORDERS."""
    widths, jumps = look_masks(goes, [[] for _ in goes], sight)

    def steps_at(mask):
        steps = {}
        for deed, row in jumps.items():
            behind = mask_behind(row, mask)
            # The pair stays where no wished RUN has such a LOOK.
            steps[deed] = behind if behind > 0 else mask
        return steps
    table = spread(widths[0], steps_at, 4)
    numbers = {mask: number for number, mask in enumerate(table)}
    pairs = []
    for mask, steps in table.items():
        pairs.append((_order_at(goes, outs, held, mask), tuple([numbers[target] for target in steps.values()])))
    return tuple(pairs)


def _clash(goes, outs, posts):
    """RUN and OTHERS of a paper with "lost", or None if POSTS can keep the WISH."""
    for numbers, lost in _lost_by(outs, posts).items():
        # What the other posts see does not matter for the deeds that these ones hold.
        rows, found = _rows(goes, lost, [posts[number][0] for number in numbers])
        if found is not None:
            row, deed = found
            runs = _runs_to(rows, row, [posts[number][0] for number in numbers])
            others = [None] * len(posts)
            for number, run in zip(numbers, runs[1:]):
                others[number] = run
            return (runs[0] + (deed,), tuple(others))
    return None


def _lost_by(outs, posts):
    """For the numbers of posts that hold deeds, just they, a list of such deeds that lead out from each STANDING."""
    lots = {}
    for at, ways in enumerate(outs):
        for deed in ways:
            numbers = tuple([number for number, post in enumerate(posts) if deed in post[1]])
            if numbers not in lots:
                lots[numbers] = [[] for _ in outs]
            lots[numbers][at].append(deed)
    return lots


def _rows(goes, lost, sights):
    """The rows of STANDINGS of a RUN and of one more for each SIGHT that looks alike; each with how it comes.

    That is the row ahead, a deed, and 0 where all do it that see it, otherwise the place of the one that does. Beside
    them: the first row met from whose first STANDING a deed leads out, by which all others go on, and this deed.
    """
    first = (0,) * (1 + len(sights))
    rows = {first: None}
    layer = [first]
    while len(layer) > 0:
        following = []
        for row in layer:
            for deed in lost[row[0]]:
                if all([deed in goes[number] for number in row[1:]]):
                    return rows, (row, deed)
            for target, way in _rows_behind(goes, sights, row):
                if target not in rows:
                    rows[target] = (row, *way)
                    following.append(target)
        layer = following
    return rows, None


def _rows_behind(goes, sights, row):
    found = []
    for deed, target in goes[row[0]].items():
        after = [target]
        for number, sight in zip(row[1:], sights):
            to = goes[number].get(deed) if deed in sight else number
            if to is None:
                break
            after.append(to)
        else:
            found.append((tuple(after), (deed, 0)))
    for at, sight in enumerate(sights, start=1):
        for deed, target in goes[row[at]].items():
            if deed not in sight:
                found.append((row[:at] + (target,) + row[at + 1:], (deed, at)))
    return found


def _runs_to(rows, row, sights):
    """The RUNS that lead to a row of STANDINGS."""
    runs = [() for _ in row]
    while rows[row] is not None:
        row, deed, at = rows[row]
        if at > 0:
            runs[at] = (deed,) + runs[at]
        else:
            runs[0] = (deed,) + runs[0]
            for number, sight in enumerate(sights, start=1):
                if deed in sight:
                    runs[number] = (deed,) + runs[number]
    return runs
