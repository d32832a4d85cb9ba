"""[50], [51] POSTS, and what [52] says of the TEAM of SURE ORDERS: worksward/posts.py, worksward/postpapers.py."""

import itertools
import unittest

from common import (CUBE, EIGHT, MANY, NINE, Odd, RING, SHARED, STILL, TWELVE, all_sights, chance_of, hold_papers, junk,
                    mutations, no_papers, outcome, same_kind, some_lot, some_posts, some_wish, some_works, told_ascending,
                    told_good, told_int, told_judged, told_look, told_lot_behind, told_lot_of, told_lots, told_next, told_outs,
                    told_posts, told_run, told_runs, told_standings, told_start, told_tuple)
from worksward.errors import BadPost
from worksward.postpapers import check_posts
from worksward.posts import can_post, need_posts, post_paper, sure_order, team_of
from worksward.sightkeeps import can_keep_by

ALL2 = (((0, 0),), (0,))
ALL3 = (((0, 0, 0),), (0,))
SIZES = {"kept": 2, "lost": 3}
FORK = (3, (((0, 1, 2), (((0, 1), (1, 2)), ((2, 0),), ((2, 0),))),), (), ((0,),))
# Deed 2 right behind deed 0 alone.
ONE_WAY = (((1, 0, 2), (1, 0, 0), (2, 2, 2)), (0, 1))
# One that sees 1 and holds 2 keeps it; so do two that hold 2, one of which sees 1.
KEEPING = (((1,), (2,)), ((0,), (0, 1)))
BOTH = (((1,), (2,)), ((0,), (0, 2)))
BLIND = (((), (2,)), ((0, 1, 2), (0, 1)))


def told_can(works, wish, posts):
    """Whether POSTS can keep it: by each RUN, up to the lots of STANDINGS that each post knows of."""
    first = ((told_start(works), 0), tuple(told_lot_of(works, wish, sight, ()) for sight, _ in posts))
    known = {first}
    waiting = [first]
    while waiting:
        pair, lots = waiting.pop()
        for deed in range(works[0]):
            after = told_next(works, wish, pair, deed)
            if after == "out":
                # Each post that holds the deed must be in doubt, else one forbids it.
                if all(any(told_good(works, wish, other, deed) is not None for other in lot)
                       for lot, post in zip(lots, posts) if deed in post[1]):
                    return False
            elif after is not None:
                behind = []
                for lot, (sight, _) in zip(lots, posts):
                    behind.append(told_lot_behind(works, wish, sight, lot, deed) if deed in sight else lot)
                node = (after, tuple(behind))
                if node not in known:
                    known.add(node)
                    waiting.append(node)
    return True


def told_sure(works, wish, post, lot):
    return tuple(deed for deed in post[1] if any(deed in told_outs(works, wish, pair) for pair in lot)
                 and not any(told_good(works, wish, pair, deed) is not None for pair in lot))


def told_team(works, wish, posts):
    """The TEAM of the SURE ORDERS, of any number of pairs."""
    team = []
    for post in posts:
        lots = list(told_lots(works, wish, post[0]))
        mind = []
        for lot in lots:
            behind = [told_lot_behind(works, wish, post[0], lot, deed) for deed in post[0]]
            mind.append((told_sure(works, wish, post, lot), tuple(lots.index(after or lot) for after in behind)))
        team.append(tuple(mind))
    return tuple(team)


def told_passes(posts, team, run):
    """Whether a RUN passes by a TEAM."""
    at = [0 for _ in posts]
    for deed in run:
        for number, (sight, _) in enumerate(posts):
            if deed in team[number][at[number]][0]:
                return False
        for number, (sight, _) in enumerate(posts):
            if deed in sight:
                at[number] = team[number][at[number]][1][sight.index(deed)]
    return True


def told_check(works, wish, posts, paper):
    def holds():
        if paper[0] == "kept":
            return told_table(works, wish, posts, paper[1])
        return told_lost(works, wish, posts, *paper[1:])
    return told_judged(SIZES, paper, holds)


def told_table(works, wish, posts, table):
    known = told_standings(works, wish)
    if type(table) is not tuple or not all(told_tuple(row, len(posts) + 1, len(posts) + 1) for row in table):
        return False
    if not all(any(same_kind(part, pair) for pair in known) for row in table for part in row) or not told_ascending(table):
        return False
    if ((told_start(works), 0),) * (len(posts) + 1) not in table:
        return False
    for row in table:
        for deed in range(works[0]):
            after = told_next(works, wish, row[0], deed)
            if after == "out":
                if all(told_good(works, wish, pair, deed) is not None for pair, post in zip(row[1:], posts) if deed in post[1]):
                    return False
            elif after is not None:
                behind = [told_good(works, wish, pair, deed) if deed in post[0] else pair for pair, post in zip(row[1:], posts)]
                if None not in behind and (after, *behind) not in table:
                    return False
            for k, post in enumerate(posts):
                then = told_good(works, wish, row[k + 1], deed)
                if deed not in post[0] and then is not None and row[:k + 1] + (then,) + row[k + 2:] not in table:
                    return False
    return True


def told_lost(works, wish, posts, run, others):
    if type(run) is not tuple or not run or not told_int(run[-1], 0, works[0] - 1):
        return False
    pair = told_run(works, wish, run[:-1])
    if pair is None or run[-1] not in told_outs(works, wish, pair) or not told_tuple(others, len(posts), len(posts)):
        return False
    for (sight, held), other in zip(posts, others):
        if run[-1] not in held:
            if other is not None:
                return False
        elif told_run(works, wish, other) is None or told_run(works, wish, other + run[-1:]) is None:
            return False
        elif told_look(sight, other) != told_look(sight, run[:-1]):
            return False
    return True


def cases(seed, many, most=8):
    chance = chance_of(seed)
    found = 0
    while found < many:
        works = some_works(chance, chance.randint(2, 4), chance.randint(1, 2), most=3, part=0.8)
        works = works[:2] + (some_lot(chance, works[0], 0.1),) + works[3:]
        wish = some_wish(chance, works[0], 4, part=0.5)
        known = told_standings(works, wish)
        if len(known) <= most and (any(told_outs(works, wish, pair) for pair in known) or chance.random() < 0.1):
            found += 1
            yield works, wish, some_posts(chance, works)


class NeedPosts(unittest.TestCase):
    def test_gives_itself(self):
        for posts in (KEEPING, BOTH, BLIND, KEEPING + BOTH[:1], (((), ()), ((), ())), (((0, 1, 2), (0, 1, 2)),) * 3):
            self.assertIs(need_posts(FORK, posts), posts)

    def test_form(self):
        for thing in (None, (), KEEPING[:1], KEEPING + BOTH, list(KEEPING), "ab", {}, 2, True, {0: 1, 1: 2}):
            with self.assertRaises(BadPost) as caught:
                need_posts(FORK, thing)
            self.assertTrue(same_kind(caught.exception.part, "form"), thing)

    def test_the_first_that_is_none(self):
        works = FORK[:2] + ((1,),) + FORK[3:]
        for post in (None, (), ((0,),), ((0,), (0,), ()), [(0,), (0,)], ((1, 0), ()), ((3,), ()), ((True,), ()), ((0.0,), ()), ([0], ()),
                     ((), (2, 0)), ((), (3,)), ((), (1,)), ((), (0, 1)), ((), [0]), ((), (False,)), ((), None), (None, ()), "ab",
                     ((0, 0), ()), ((), (0, 0)), ((-1,), ()), Odd()):
            for number in (0, 1, 2):
                things = [((1,), (2,))] * 3
                things[number] = post
                with self.assertRaises(BadPost) as caught:
                    need_posts(works, tuple(things))
                self.assertTrue(same_kind(caught.exception.part, number), post)
                if number < 2:
                    things[number + 1] = None
                    self.assertEqual(outcome(need_posts, works, tuple(things)), ("BadPost", number))

    def test_works_come_first(self):
        self.assertEqual(outcome(need_posts, None, None), ("BadWorks", "form"))
        self.assertEqual(outcome(need_posts, MANY, None), ("TooMany", 24))
        # Places may be many, STANDINGS are not counted.
        self.assertEqual(need_posts(CUBE, KEEPING), KEEPING)

    def test_by_chance(self):
        chance = chance_of(140)
        for works, _, posts in cases(141, 40):
            for thing in mutations(posts, chance, 60):
                part = told_posts(works, thing)
                self.assertEqual(outcome(need_posts, works, thing), ("ok", thing) if part is None else ("BadPost", part))


class CanPost(unittest.TestCase):
    def test_fork(self):
        self.assertIs(can_post(FORK, ONE_WAY, KEEPING), True)
        self.assertIs(can_post(FORK, ONE_WAY, BOTH), True)
        self.assertIs(can_post(FORK, ONE_WAY, BLIND), False)
        self.assertIs(can_post(FORK, ONE_WAY, (((0, 1, 2), ()), ((0, 1, 2), (0, 1)))), False)
        self.assertEqual(post_paper(FORK, ONE_WAY, (((0, 1, 2), ()), ((0, 1, 2), (0, 1)))), ("lost", (1, 2), (None, None)))
        self.assertEqual(check_posts(FORK, ONE_WAY, BLIND, ("lost", (1, 2), ((0,), None))), "lost")

    def test_nothing_to_forbid(self):
        for posts in (KEEPING, BLIND, (((), ()), ((), ()))):
            self.assertIs(can_post(FORK, ALL3, posts), True)
            self.assertIs(can_post(STILL[:1] + STILL[1:], (((0,),), (0,)), (((), ()), ((), ()))), True)

    def test_free_deeds_lead_out(self):
        works = FORK[:2] + ((2,),) + FORK[3:]
        self.assertIs(can_post(works, ONE_WAY, (((0, 1, 2), (0, 1)), ((0, 1, 2), (0, 1)))), False)

    def test_by_chance(self):
        seen = {}
        misled = {}
        for works, wish, posts in cases(142, 500):
            due = told_can(works, wish, posts)
            self.assertIs(can_post(works, wish, posts), due)
            paper = post_paper(works, wish, posts)
            self.assertEqual(paper[0], "kept" if due else "lost")
            self.assertEqual(check_posts(works, wish, posts, paper), paper[0])
            self.assertEqual(told_check(works, wish, posts, paper), ("ok", paper[0]))
            seen[paper[0], len(posts)] = seen.get((paper[0], len(posts)), 0) + 1
            if not due:
                many = sum(other is not None for other in paper[2])
                misled[many] = misled.get(many, 0) + 1
        self.assertTrue(len(seen) == 4 and min(seen.values()) > 20, seen)
        self.assertTrue(misled[0] > 10 and misled[1] > 5 and misled.get(2, 0) > 0, misled)

    def test_one_post_that_sees_and_can_all(self):
        for works, wish, posts in cases(143, 120):
            seen = tuple(sorted({deed for sight, _ in posts for deed in sight}))
            if can_post(works, wish, posts):
                self.assertIs(can_keep_by(works, wish, seen), True)
            can = tuple(deed for deed in range(works[0]) if deed not in works[2])
            self.assertIs(can_post(works, wish, ((posts[0][0], can), (posts[0][0], can))), can_keep_by(works, wish, posts[0][0]))

    def test_sights_one_within_the_other(self):
        for works, wish, posts in cases(144, 120):
            one = posts[0][0]
            two = tuple(deed for deed in one if deed in posts[1][0])
            ordered = ((one, posts[0][1]), (two, posts[1][1]))
            rest = tuple(deed for deed in posts[1][1] if deed not in posts[0][1])
            self.assertIs(can_post(works, wish, ordered), can_post(works, wish, (ordered[0], (two, rest))))


class SureOrders(unittest.TestCase):
    def test_fork(self):
        self.assertEqual(sure_order(FORK, ONE_WAY, KEEPING, 0, (1,)), (2,))
        self.assertEqual(sure_order(FORK, ONE_WAY, KEEPING, 0, ()), ())
        self.assertEqual(sure_order(FORK, ONE_WAY, KEEPING, 1, (0,)), ())
        # One that does not see 1 is not sure; and it need not be such that POSTS keep it.
        self.assertEqual(sure_order(FORK, ONE_WAY, BLIND, 0, ()), ())
        self.assertEqual(outcome(sure_order, FORK, ONE_WAY, KEEPING, 0, (1, 1)), ("OutOfPlace",))
        self.assertEqual(outcome(sure_order, FORK, ONE_WAY, KEEPING, 0, (0,)), ("OutOfPlace",))

    def test_numbers(self):
        for number in (-1, 2, 3, True, False, 0.0, None, "0", (0,)):
            self.assertEqual(outcome(sure_order, FORK, ONE_WAY, KEEPING, number, ()), ("OutOfPlace",))
        self.assertEqual(sure_order(FORK, ONE_WAY, KEEPING + KEEPING[:1], 2, (1,)), (2,))

    def test_by_chance(self):
        orders = 0
        for works, wish, posts in cases(145, 120):
            for run in told_runs(works, 3):
                for number, (sight, held) in enumerate(posts):
                    look = told_look(sight, run)
                    lot = told_lot_of(works, wish, sight, look)
                    due = ("ok", told_sure(works, wish, posts[number], lot)) if lot else ("OutOfPlace",)
                    self.assertEqual(outcome(sure_order, works, wish, posts, number, look), due)
                    orders += due[0] == "ok" and len(due[1]) > 0
        self.assertGreater(orders, 50)

    def test_by_them_just_the_wished_runs_pass(self):
        many = 0
        for works, wish, posts in cases(146, 150):
            if not can_post(works, wish, posts):
                continue
            for run in told_runs(works, 4):
                passes = True
                for k in range(len(run)):
                    passes = passes and not any(run[k] in sure_order(works, wish, posts, number, told_look(sight, run[:k]))
                                                for number, (sight, _) in enumerate(posts))
                    if not passes:
                        break
                self.assertEqual(passes, told_run(works, wish, run) is not None)
                many += not passes
        self.assertGreater(many, 100)


class Teams(unittest.TestCase):
    def test_fork(self):
        # Behind a 1 the first post forbids 2, for good: there is no wished RUN with another seen deed.
        self.assertEqual(team_of(FORK, ONE_WAY, KEEPING), ((((), (1,)), ((2,), (1,))), (((), (1,)), ((), (1,)))))
        self.assertEqual(outcome(team_of, FORK, ONE_WAY, BLIND), ("Nothing",))

    def test_by_chance(self):
        seen = {}
        for works, wish, posts in cases(147, 400):
            team = told_team(works, wish, posts)
            got = outcome(team_of, works, wish, posts)
            if not told_can(works, wish, posts):
                due = ("Nothing",)
            elif max(map(len, team)) > 4:
                due = ("TooMany", 4)
            else:
                due = ("ok", team)
                for run in told_runs(works, 4):
                    self.assertEqual(told_passes(posts, team, run), told_run(works, wish, run) is not None)
            self.assertEqual(got, due)
            most = max(map(len, team))
            seen[due[0], most] = seen.get((due[0], most), 0) + 1
        for key in (("ok", 1), ("ok", 4), ("TooMany", 5), ("Nothing", 5)):
            self.assertGreater(seen.get(key, 0), 0, seen)


class Bounds(unittest.TestCase):
    POSTS = (((0,), (1,)), ((), ()))

    def test_8_standings_and_more(self):
        self.assertEqual(len(told_standings(EIGHT, ALL2)), 8)
        self.assertEqual(len(told_standings(NINE, ALL2)), 9)
        self.assertIs(can_post(EIGHT, ALL2, self.POSTS), True)
        paper = post_paper(EIGHT, ALL2, self.POSTS)
        self.assertEqual(len(paper[1]), 8 * 4 * 8)
        self.assertEqual(check_posts(EIGHT, ALL2, self.POSTS, paper), "kept")
        self.assertEqual(sure_order(EIGHT, ALL2, self.POSTS, 0, (0,)), ())
        self.assertEqual(len(team_of(EIGHT, ALL2, self.POSTS)[0]), 2)
        for call, more in ((can_post, ()), (post_paper, ()), (sure_order, (0, (0,))), (team_of, ()), (check_posts, (None,))):
            self.assertEqual(outcome(call, NINE, ALL2, self.POSTS, *more), ("TooMany", 8))
        self.assertEqual(outcome(sure_order, NINE, ALL2, self.POSTS, 0, (1,)), ("OutOfPlace",))
        self.assertEqual(outcome(sure_order, NINE, ALL2, self.POSTS, 2, (0,)), ("OutOfPlace",))
        self.assertEqual(outcome(check_posts, NINE, ALL2, self.POSTS[:1], None), ("BadPost", "form"))

    def test_too_many_standings_come_ahead_of_nothing(self):
        bad = (((0, 1), (1, 1)), (0,))
        works = NINE[:1] + (NINE[1] + ((((0,), (((0, 0),),)),)),) + NINE[2:3] + (NINE[3] + ((),),)
        self.assertEqual(outcome(team_of, works, bad, (((), ()), ((), ()))), ("Nothing",))
        two = (((1, 0), (1, 2), (2, 2)), (0, 1))
        self.assertTrue(len(told_standings(TWELVE, two)) > 8)
        self.assertEqual(outcome(team_of, TWELVE, two, (((), ()), ((), ()))), ("TooMany", 8))

    def test_looks_of_400_deeds(self):
        self.assertEqual(sure_order(EIGHT, ALL2, self.POSTS, 0, (0,) * 400), ())
        self.assertEqual(outcome(sure_order, EIGHT, ALL2, self.POSTS, 0, (0,) * 401), ("OutOfPlace",))


class Papers(unittest.TestCase):
    def test_no_papers(self):
        for thing in no_papers({"kept": 1, "lost": 2}):
            self.assertEqual(outcome(check_posts, FORK, ONE_WAY, KEEPING, thing), ("BadPaper", "form"), thing)

    def test_lost(self):
        for run, others, is_so in (((1, 2), ((0,), None), True), ((1, 2), ((0, 2, 0), None), True), ((1, 2), ((0,), ()), False),
                                   ((1, 2), (None, None), False), ((1, 2), ((1,), None), False), ((0, 2), ((0,), None), False),
                                   ((), ((0,), None), False), ((1, 2, 2), ((0,), None), False), ((1, 2), ((0,),), False),
                                   ((1, 2), [(0,), None], False), ([1, 2], ((0,), None), False), ((1, True), ((0,), None), False),
                                   ((1, 2.0), ((0,), None), False), ((1, [2]), ((0,), None), False), ((1, 2), ([0], None), False),
                                   ((0, 2) * 500 + (1, 2), ((0, 2) * 600 + (0,), None), True), ((1, 2), ((0, 2), None), False),
                                   (None, ((0,), None), False), ((1, 2), None, False), ((1, 2), ((0,), None, None), False)):
            due = ("ok", "lost") if is_so else ("BadPaper", "lost")
            self.assertEqual(outcome(check_posts, FORK, ONE_WAY, BLIND, ("lost", run, others)), due, (run, others))

    def test_standings_of_papers_are_such(self):
        paper = post_paper(FORK, ONE_WAY, KEEPING)
        for extra in (((9,), 0), ((1,), 0), ((0,), 2)):
            table = tuple(sorted(paper[1] + ((extra,) * 3,)))
            self.assertEqual(outcome(check_posts, FORK, ONE_WAY, KEEPING, ("kept", table)), ("BadPaper", "kept"))

    def test_papers_that_are_otherwise(self):
        chance = chance_of(148)
        many = {}
        for works, wish, posts in cases(149, 80, 4):
            paper = post_paper(works, wish, posts)
            if len(str(paper)) < 3000:
                hold_papers(self, check_posts, told_check, (works, wish, posts), paper, chance, 100, many)
        self.assertTrue(len(many) == 2 and min(many.values()) > 20, many)

    def test_papers_of_others(self):
        chance = chance_of(150)
        many = 0
        for works, wish, posts in cases(151, 120, 5):
            paper = post_paper(works, wish, posts)
            near = (wish[0], tuple(sorted({0} | {state for state in range(len(wish[0])) if chance.random() < 0.7})))
            for args in ((works, near, posts), (works, wish, some_posts(chance, works, len(posts))), (works, wish, posts[::-1])):
                if len(told_standings(*args[:2])) <= 8:
                    due = told_check(*args, paper)
                    many += due[0] == "ok"
                    self.assertEqual(outcome(check_posts, *args, paper), due)
        self.assertGreater(many, 50)


if __name__ == "__main__":
    unittest.main()
