"""The checks of papers on what a TEAM keeps within, and on whether it brings WORKS to a GOAL."""

from worksward.basics import (
    are_ascending, is_below, is_lot_of, is_number, is_row, is_tuple, need_paper, need_proof, walk,
)
from worksward.posts import need_posts_of
from worksward.teams import first_node, need_team_of, stop_stepper, team_stepper
from worksward.wishes import is_good_state, need_both, wishes_row
from worksward.works import first_place, has_goal, is_place, need_works


def check_within(works, wish, posts, team, paper):
    """The word of a paper on whether a TEAM keeps a WISH within."""
    need_both(works, wish)
    need_posts_of(works, posts)
    need_team_of(works, posts, team)
    word = need_paper(paper, {"within": 2, "out": 2})
    if word == "within":
        return need_proof(word, _is_within(works, wish, posts, team, paper[1]))
    return need_proof(word, _is_out(works, wish, posts, team, paper[1]))


def check_bring(works, posts, team, paper):
    """The word of a paper on whether a TEAM brings WORKS to a GOAL."""
    need_works(works)
    need_posts_of(works, posts)
    need_team_of(works, posts, team)
    word = need_paper(paper, {"brought": 2, "round": 3, "still": 2})
    passing_at = team_stepper(works, posts, team)
    if word == "brought":
        return need_proof(word, _is_brought(works, posts, team, passing_at, paper[1]))
    node = _node_behind(works, passing_at, first_node(works, posts), paper[1])
    if word == "still":
        return need_proof(word, node is not None and len(passing_at(node)) == 0)
    return need_proof(word, node is not None and _is_round(works, passing_at, node, paper[2]))


def _is_round(works, passing_at, node, ring):
    return _node_behind(works, passing_at, node, ring) == node and len(ring) > 0


def _are_numbers(team, value):
    """Whether any value has the number of a pair for each mind."""
    return is_tuple(len(team), value) and all([is_below(len(mind), number) for mind, number in zip(team, value)])


def _is_within(works, wish, posts, team, table):
    def is_stop(value):
        if not is_tuple(3, value) or not is_place(works, value[0]) or not is_good_state(wish, value[1]):
            return False
        return _are_numbers(team, value[2])
    if not is_lot_of(is_stop, table):
        return False
    lot = {stop: True for stop in table}
    if (first_place(works), 0, (0,) * len(posts)) not in lot:
        return False
    stops_at = stop_stepper(works, wish, posts, team)
    for stop in table:
        for target in stops_at(stop).values():
            if target not in lot:
                return False
    return True


def _is_out(works, wish, posts, team, run):
    if walk(team_stepper(works, posts, team), first_node(works, posts), run) is None:
        return False
    return not wishes_row(works[0], wish, run)


def _is_brought(works, posts, team, passing_at, table):
    if not isinstance(table, tuple):
        return False
    for row in table:
        if not is_tuple(3, row) or not is_place(works, row[0]) or has_goal(works, row[0]):
            return False
        if not _are_numbers(team, row[1]) or not is_number(row[2]) or row[2] < 0:
            return False
    ranks = {row[:2]: row[2] for row in table}
    if not are_ascending([row[:2] for row in table]):
        return False
    if not has_goal(works, first_place(works)) and first_node(works, posts) not in ranks:
        return False
    return all([_leads_on(works, passing_at(node), ranks, rank) for node, rank in ranks.items()])


def _leads_on(works, steps, ranks, rank):
    """Whether some deed passes, and each leads to a GOAL or to what has a lesser RANK."""
    for node in steps.values():
        if not has_goal(works, node[0]) and not (node in ranks and ranks[node] < rank):
            return False
    return len(steps) > 0


def _node_behind(works, passing_at, node, row):
    """The place and numbers behind any value as deeds that pass, no place on the way being a GOAL; or None."""
    if not is_row(works[0], row) or has_goal(works, node[0]):
        return None
    for deed in row:
        node = passing_at(node).get(deed)
        if node is None or has_goal(works, node[0]):
            return None
    return node
