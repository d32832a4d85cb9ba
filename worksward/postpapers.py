"""The check of papers on whether POSTS can keep a WISH."""

from worksward.basics import is_lot_of, is_tuple, need_paper, need_proof
from worksward.posts import need_posts_of
from worksward.sights import need_standings, seen_of
from worksward.wishes import first_pair, is_good_pair, need_both, pair_behind


def check_posts(works, wish, posts, paper):
    """The word of a paper on whether POSTS can keep a WISH."""
    need_both(works, wish)
    need_posts_of(works, posts)
    table = need_standings(works, wish, 8)
    word = need_paper(paper, {"kept": 2, "lost": 3})
    if word == "kept":
        return need_proof(word, _is_kept_table(works, wish, posts, table, paper[1]))
    return need_proof(word, _is_lost(works, wish, posts, table, paper[1:]))


def _is_kept_table(works, wish, posts, table, rows):
    def is_row(value):
        return is_tuple(1 + len(posts), value) and all([is_standing(part) for part in value])

    def is_standing(value):
        return is_good_pair(works, wish, value) and value in table
    if not is_lot_of(is_row, rows):
        return False
    lot = {row: True for row in rows}
    if (first_pair(works),) * (1 + len(posts)) not in lot:
        return False
    return all([_goes_on(posts, table, row, lot) and _is_kept(posts, table, row) for row in rows])


def _goes_on(posts, table, row, lot):
    """Whether all rows that one asks for are in the lot."""
    for deed, target in table[row[0]].items():
        if target is not None:
            after = [target]
            for standing, post in zip(row[1:], posts):
                after.append(table[standing].get(deed) if deed in post[0] else standing)
            if None not in after and tuple(after) not in lot:
                return False
    for number, post in enumerate(posts, start=1):
        for deed, target in table[row[number]].items():
            if target is not None and deed not in post[0] and row[:number] + (target,) + row[number + 1:] not in lot:
                return False
    return True


def _is_kept(posts, table, row):
    """Whether no deed leads out by which the STANDINGS of all posts that hold it go on."""
    for deed, target in table[row[0]].items():
        if target is None:
            going = [table[standing].get(deed) for standing, post in zip(row[1:], posts) if deed in post[1]]
            if None not in going:
                return False
    return True


def _is_lost(works, wish, posts, table, told):
    run, others = told
    if not isinstance(run, tuple) or len(run) == 0 or not is_tuple(len(posts), others):
        return False
    standing = pair_behind(works, wish, run[:-1])
    if standing is None:
        return False
    # The RUN leads out just if it can be done, and is not wished, by its last deed.
    if pair_behind(works, wish, run) is not None or not _can_be_done(table[standing], run[-1]):
        return False
    return all([_is_misled(works, wish, post, table, run, other) for post, other in zip(posts, others)])


def _can_be_done(steps, deed):
    return isinstance(deed, int) and not isinstance(deed, bool) and deed in steps


def _is_misled(works, wish, post, table, run, other):
    """Whether a thing is as told for a post that sees, and may hold, the last deed of a RUN that leads out."""
    sight, held = post
    if run[-1] not in held:
        return other is None
    standing = pair_behind(works, wish, other)
    if standing is None or table[standing].get(run[-1]) is None:
        return False
    return seen_of(sight, other) == seen_of(sight, run[:-1])
