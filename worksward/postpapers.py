"""The check of papers on whether POSTS can keep a WISH."""

from worksward.basics import are_ascending, is_tuple, need_paper, need_proof
from worksward.posts import need_posts_of, row_moves, rows_behind
from worksward.sights import coded, need_standings, number_of, seen_of
from worksward.wishes import need_both, pair_behind


def check_posts(works, wish, posts, paper):
    """The word of a paper on whether POSTS can keep a WISH."""
    need_both(works, wish)
    need_posts_of(works, posts)
    table = need_standings(works, wish, 8)
    word = need_paper(paper, {"kept": 2, "lost": 3})
    if word == "kept":
        return need_proof(word, _is_kept_table(posts, table, paper[1]))
    return need_proof(word, _is_lost(works, wish, posts, table, paper[1:]))


def _is_kept_table(posts, table, rows):
    nodes, goes, outs = coded(table)
    codes = _codes_of(len(posts), nodes, rows)
    if codes is None or codes[:1] != [0]:
        return False
    if not are_ascending(codes):
        return False
    lot = {code: True for code in codes}
    moves = row_moves(goes, [sight for sight, _ in posts])
    holders = _holders(posts, outs)
    for code in codes:
        for target, _, _ in rows_behind(moves, code):
            if target not in lot:
                return False
        for deed in outs[code >> moves[0][0]]:
            if all([deed in goes[code >> moves[0][at] & 7] for at in holders[deed]]):
                return False
    return True


def _holders(posts, outs):
    """For each deed that leads out from a STANDING the places in a row of the posts that hold it."""
    deeds = sorted(set([deed for ways in outs for deed in ways]))
    return {deed: [at for at, post in enumerate(posts, start=1) if deed in post[1]] for deed in deeds}


def _codes_of(many, nodes, rows):
    """The rows as numbers, three bits for each STANDING; None if any value is no tuple of rows for so many posts."""
    numbers = {node: number for number, node in enumerate(nodes)}
    if not isinstance(rows, tuple):
        return None
    codes = []
    for row in rows:
        if not isinstance(row, tuple) or len(row) != 1 + many:
            return None
        code = 0
        for part in row:
            number = number_of(numbers, part)
            if number is None:
                return None
            code = code << 3 | number
        codes.append(code)
    return codes


def _is_lost(works, wish, posts, table, told):
    run, others = told
    if not isinstance(run, tuple) or len(run) == 0 or not is_tuple(len(posts), others):
        return False
    standing = pair_behind(works, wish, run[:-1])
    if standing is None:
        return False
    # The RUN leads out just if it can be done, and is not wished, by its last deed.
    if pair_behind(works, wish, run) is not None or not _can_be_done(table[standing], run[-1]):
        return False
    return all([_is_misled(works, wish, post, table, run, other) for post, other in zip(posts, others)])


def _can_be_done(steps, deed):
    return isinstance(deed, int) and not isinstance(deed, bool) and deed in steps


def _is_misled(works, wish, post, table, run, other):
    """Whether a thing is as told for a post that sees, and may hold, the last deed of a RUN that leads out."""
    sight, held = post
    if run[-1] not in held:
        return other is None
    standing = pair_behind(works, wish, other)
    if standing is None or table[standing].get(run[-1]) is None:
        return False
    return seen_of(sight, other) == seen_of(sight, run[:-1])
