"""TEAMS of POSTS: what passes, whether a WISH is kept within, whether WORKS are brought to a GOAL, papers on both."""

from worksward.basics import first_out, first_rows, is_below, is_lot, is_tuple, is_tuple_of, ranks_from, spread, walk
from worksward.errors import OutOfPlace
from worksward.posts import need_posts_of
from worksward.wishes import need_both
from worksward.works import first_place, has_goal, need_run, need_works, stepper


def need_team(works, posts, thing):
    """The thing itself; refuses what is no TEAM of the POSTS."""
    need_works(works)
    need_posts_of(works, posts)
    return need_team_of(works, posts, thing)


def need_team_of(works, posts, thing):
    """The thing itself, the POSTS being such; refuses what is no TEAM of them."""
    if not is_tuple(len(posts), thing):
        raise OutOfPlace("not a mind for each post")
    for post, mind in zip(posts, thing):
        if not _is_mind(works, post, mind):
            raise OutOfPlace("not a mind of its post")
    return thing


def _is_mind(works, post, mind):
    sight, held = post
    if not is_tuple_of(1, 4, mind):
        return False
    for pair in mind:
        if not is_tuple(2, pair) or not is_lot(works[0], pair[0]) or not is_tuple(len(sight), pair[1]):
            return False
        if not all([deed in held for deed in pair[0]]) or not all([is_below(len(mind), number) for number in pair[1]]):
            return False
    return True


def does_pass(works, posts, team, run):
    """Whether a RUN passes."""
    need_works(works)
    need_posts_of(works, posts)
    need_team_of(works, posts, team)
    need_run(works, run)
    return walk(team_stepper(works, posts, team), first_node(works, posts), run) is not None


def keeps_within(works, wish, posts, team):
    """Whether all RUNS that pass are wished."""
    return first_out(_stops(works, wish, posts, team)) is None


def within_paper(works, wish, posts, team):
    """A paper on whether a TEAM keeps a WISH within."""
    table = _stops(works, wish, posts, team)
    run = first_out(table)
    if run is not None:
        return ("out", run)
    return ("within", tuple(sorted(table)))


def _stops(works, wish, posts, team):
    """The table of steps of the STOPS; a RUN that passes and is not wished leads out of it. Refuses wrong arguments."""
    need_both(works, wish)
    need_posts_of(works, posts)
    need_team_of(works, posts, team)
    return spread((first_place(works), 0, (0,) * len(posts)), stop_stepper(works, wish, posts, team))


def does_bring(works, posts, team):
    """Whether a TEAM brings WORKS to a GOAL."""
    return bring_paper(works, posts, team)[0] == "brought"


def bring_paper(works, posts, team):
    """A paper on whether a TEAM brings WORKS to a GOAL."""
    need_works(works)
    need_posts_of(works, posts)
    need_team_of(works, posts, team)
    if has_goal(works, first_place(works)):
        return ("brought", ())
    table = _table_to_goals(works, posts, team)
    for node, steps in table.items():
        if len(steps) == 0:
            return ("still", first_rows(table)[node])
    ranks = _ranks(table)
    if len(ranks) == len(table):
        return ("brought", tuple(sorted([(*node, rank) for node, rank in ranks.items()])))
    node, ring = _ring(table, ranks)
    return ("round", first_rows(table)[node], ring)


def team_stepper(works, posts, team):
    """A function that gives, for a place and numbers, a dict of the deeds that pass, with what is behind them."""
    steps_at = stepper(works)
    moves_at = _mind_stepper(works, posts, team)

    def passing_at(node):
        place, numbers = node
        moves = moves_at(numbers)
        return {deed: (target, moves[deed]) for deed, target in steps_at(place).items() if deed in moves}
    return passing_at


def stop_stepper(works, wish, posts, team):
    """A function that gives, for a STOP, a dict of the deeds that pass, with the STOPS behind; None for a bad state."""
    steps_at = stepper(works)
    moves_at = _mind_stepper(works, posts, team)
    rows, good = wish

    def stops_at(stop):
        place, state, numbers = stop
        moves = moves_at(numbers)
        stops = {}
        for deed, target in steps_at(place).items():
            if deed in moves:
                after = rows[state][deed]
                stops[deed] = (target, after, moves[deed]) if after in good else None
        return stops
    return stops_at


def _mind_stepper(works, posts, team):
    """A function that gives, for the numbers of the pairs of all minds, a dict of the deeds that no ORDER forbids.

    Each has the numbers behind it.
    """
    minds = []
    for post, mind in zip(posts, team):
        minds.append([(order, {deed: to for deed, to in zip(post[0], nexts)}) for order, nexts in mind])
    known = {}

    def moves_at(numbers):
        if numbers in known:
            return known[numbers]
        pairs = [mind[number] for mind, number in zip(minds, numbers)]
        moves = {}
        for deed in range(works[0]):
            if not any([deed in order for order, _ in pairs]):
                moves[deed] = tuple([nexts.get(deed, at) for at, (_, nexts) in zip(numbers, pairs)])
        known[numbers] = moves
        return moves
    return moves_at


def first_node(works, posts):
    """The pair of the place and the numbers behind ()."""
    return (first_place(works), (0,) * len(posts))


def _table_to_goals(works, posts, team):
    """The table of steps of what passes, as far as GOALS; what leads to one leads out."""
    passing_at = team_stepper(works, posts, team)

    def steps_of(node):
        return {deed: None if has_goal(works, to[0]) else to for deed, to in passing_at(node).items()}
    return spread(first_node(works, posts), steps_of)


def _ranks(table):
    """For each node of a table from which no row goes on for ever the most deeds that do not lead out."""
    sources = {node: [] for node in table}
    left = {}
    ready = []
    for node, steps in table.items():
        targets = [target for target in steps.values() if target is not None]
        left[node] = len(targets)
        for target in targets:
            sources[target].append(node)
        if len(targets) == 0:
            ready.append(node)
    return ranks_from(ready, sources, left)


def _ring(table, ranks):
    """A node from which a row leads to it again, and this row."""
    at = [node for node in table if node not in ranks][0]
    lengths = {}
    row = ()
    while at not in lengths:
        lengths[at] = len(row)
        ways = [(deed, to) for deed, to in table[at].items() if to is not None and to not in ranks]
        row = row + ways[0][:1]
        at = ways[0][1]
    return at, row[lengths[at]:]
