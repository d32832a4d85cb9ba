"""[52], [53] TEAMS of POSTS: worksward/teams.py, worksward/teampapers.py."""

import itertools
import unittest

from common import (CUBE, EIGHT, NINE, Odd, RING, SHARED, STILL, at_path, chance_of, hold_papers, junk, mutations, no_papers,
                    outcome, some_lot, some_posts, some_team, some_wish, some_works, told_ascending, told_goal, told_int,
                    told_is_place, told_is_team, told_judged, told_moved, told_node, told_passing, told_row, told_run,
                    told_runs, told_standings, told_start, told_tuple, told_wished)
from worksward.posts import can_post, team_of
from worksward.teampapers import check_bring, check_within
from worksward.teams import bring_paper, does_bring, does_pass, keeps_within, need_team, within_paper

ALL2 = (((0, 0),), (0,))
ALL3 = (((0, 0, 0),), (0,))
FORK = (3, (((0, 1, 2), (((0, 1), (1, 2)), ((2, 0),), ((2, 0),))),), (), ((0,),))
# Deed 2 right behind deed 0 alone.
ONE_WAY = (((1, 0, 2), (1, 0, 0), (2, 2, 2)), (0, 1))
POSTS = (((1,), (2,)), ((0,), (0, 1)))
# The first mind forbids 2 behind a 1, and no more behind the next one; the other one forbids nothing.
TEAM = ((((), (1,)), ((2,), (0,))), (((), (0,)),))
FREE_TEAM = ((((), (0,)),), (((), (0,)),))
# From the one side 2 leads to the GOAL, from the other one back.
SIDES = (3, (((0, 1, 2), (((0, 1), (1, 2)), ((2, 3),), ((2, 0),), ((0, 3),))),), (), ((3,),))


def told_within(works, wish, posts, team):
    """Whether all RUNS that pass are wished, by all that comes."""
    first = (told_start(works), 0, (0,) * len(posts))
    known = {first}
    waiting = [first]
    while waiting:
        place, state, numbers = waiting.pop()
        for deed in range(works[0]):
            node = told_passing(works, posts, team, (place, numbers), deed)
            if node is not None:
                if wish[0][state][deed] not in wish[1]:
                    return False
                stop = (node[0], wish[0][state][deed], node[1])
                if stop not in known:
                    known.add(stop)
                    waiting.append(stop)
    return True


def told_bring(works, posts, team):
    """"brought", "still" or "round" and both, by taking away what cannot go on for ever."""
    first = (told_start(works), (0,) * len(posts))
    if told_goal(works, first[0]):
        return {"brought"}
    steps = {}
    waiting = [first]
    while waiting:
        node = waiting.pop()
        if node not in steps:
            behind = [told_passing(works, posts, team, node, deed) for deed in range(works[0])]
            steps[node] = [after for after in behind if after is not None]
            waiting += [after for after in steps[node] if not told_goal(works, after[0])]
    found = set()
    if not all(steps.values()):
        found.add("still")
    left = set(steps)
    while True:
        less = {node for node in left if any(after in left for after in steps[node])}
        if less == left:
            break
        left = less
    if left:
        found.add("round")
    return found or {"brought"}


def told_numbers(team, thing):
    return told_tuple(thing, len(team), len(team)) and all(told_int(one, 0, len(mind) - 1) for one, mind in zip(thing, team))


def told_check_within(works, wish, posts, team, paper):
    def holds():
        if paper[0] == "out":
            return told_node(works, posts, team, paper[1]) is not None and not told_wished(wish, paper[1])
        table = paper[1]
        if type(table) is not tuple:
            return False
        for stop in table:
            if not told_tuple(stop, 3, 3) or not told_is_place(works, stop[0]) or not told_numbers(team, stop[2]):
                return False
            if type(stop[1]) is not int or stop[1] not in wish[1]:
                return False
        if not told_ascending(table) or (told_start(works), 0, (0,) * len(posts)) not in table:
            return False
        for place, state, numbers in table:
            for deed in range(works[0]):
                node = told_passing(works, posts, team, (place, numbers), deed)
                if node is not None and (node[0], wish[0][state][deed], node[1]) not in table:
                    return False
        return True
    return told_judged({"within": 2, "out": 2}, paper, holds)


def told_way(works, posts, team, node, row):
    """The place and numbers behind deeds that pass, without a GOAL on the way, or None."""
    if not told_row(row, works[0]) or told_goal(works, node[0]):
        return None
    for deed in row:
        node = told_passing(works, posts, team, node, deed)
        if node is None or told_goal(works, node[0]):
            return None
    return node


def told_check_bring(works, posts, team, paper):
    first = (told_start(works), (0,) * len(posts))

    def behind(node):
        found = [told_passing(works, posts, team, node, deed) for deed in range(works[0])]
        return [after for after in found if after is not None]

    def holds():
        if paper[0] == "brought":
            return told_brought(paper[1])
        node = told_way(works, posts, team, first, paper[1])
        if node is None:
            return False
        if paper[0] == "still":
            return not behind(node)
        return told_way(works, posts, team, node, paper[2]) == node and len(paper[2]) > 0

    def told_brought(table):
        if type(table) is not tuple:
            return False
        for row in table:
            if not told_tuple(row, 3, 3) or not told_is_place(works, row[0]) or not told_numbers(team, row[1]):
                return False
            if type(row[2]) is not int or row[2] < 0 or told_goal(works, row[0]):
                return False
        if not told_ascending([row[:2] for row in table]):
            return False
        ranks = {row[:2]: row[2] for row in table}
        for node, rank in ranks.items():
            if not behind(node):
                return False
            for after in behind(node):
                if not told_goal(works, after[0]) and ranks.get(after, rank) >= rank:
                    return False
        return told_goal(works, first[0]) or first in ranks
    return told_judged({"brought": 2, "round": 3, "still": 2}, paper, holds)


def cases(seed, many, part=0.4):
    chance = chance_of(seed)
    for _ in range(many):
        works = some_works(chance, chance.randint(1, 4), chance.randint(1, 2), most=3, part=0.8)
        works = works[:2] + (some_lot(chance, works[0], 0.2),) + (tuple(some_lot(chance, len(one[1]), 0.5) for one in works[1]),)
        posts = some_posts(chance, works)
        yield works, some_wish(chance, works[0], 3, part=0.7), posts, some_team(chance, posts, part)


class NeedTeam(unittest.TestCase):
    def test_gives_itself(self):
        self.assertIs(need_team(FORK, POSTS, TEAM), TEAM)
        self.assertIs(need_team(FORK, POSTS, FREE_TEAM), FREE_TEAM)
        for works, _, posts, team in cases(160, 100):
            self.assertIs(need_team(works, posts, team), team)

    def test_what_is_none(self):
        for thing in junk() + [TEAM[:1], TEAM + TEAM[:1], list(TEAM), (TEAM[0], ()), (TEAM[0], None), (TEAM[0], list(TEAM[1])),
                               (TEAM[0], TEAM[1] * 5), (TEAM[0], (((2,), (0,)),)), (TEAM[0], (((), ()),)), (TEAM[0], (((), (1,)),)),
                               (TEAM[0], (((), (0, 0)),)), (TEAM[0], (((), (True,)), ((), (0,)))), (TEAM[0], (((), (-1,)),)),
                               (TEAM[0], (([], (0,)),)), (TEAM[0], (((), [0]),)), (TEAM[0], ([(), (0,)],)), (TEAM[0], (((1, 0), (0,)),)),
                               (TEAM[0], (((0, 0), (0,)),)), (TEAM[0], (((False,), (0,)),)), (TEAM[0], (((), (0,), ()),)),
                               TEAM[::-1], (TEAM[0], (((), (0.0,)),)), (TEAM[0], (((9,), (0,)),))]:
            self.assertFalse(told_is_team(POSTS, thing))
            for call, args in ((need_team, (FORK, POSTS, thing)), (does_pass, (FORK, POSTS, thing, ())),
                               (keeps_within, (FORK, ONE_WAY, POSTS, thing)), (does_bring, (FORK, POSTS, thing)),
                               (within_paper, (FORK, ONE_WAY, POSTS, thing)), (bring_paper, (FORK, POSTS, thing)),
                               (check_within, (FORK, ONE_WAY, POSTS, thing, None)), (check_bring, (FORK, POSTS, thing, None))):
                self.assertEqual(outcome(call, *args), ("OutOfPlace",), thing)

    def test_minds_of_four_pairs_and_of_five(self):
        for many in range(1, 6):
            team = (tuple(((), (0,)) for _ in range(many)), TEAM[1])
            self.assertEqual(outcome(need_team, FORK, POSTS, team)[0], "ok" if many < 5 else "OutOfPlace")

    def test_orders_and_nexts_by_chance(self):
        chance = chance_of(161)
        for works, _, posts, team in cases(162, 60):
            for thing in mutations(team, chance, 60):
                due = ("ok", thing) if told_is_team(posts, thing) else ("OutOfPlace",)
                self.assertEqual(outcome(need_team, works, posts, thing), due)

    def test_order_of_errors(self):
        self.assertEqual(outcome(need_team, None, None, None), ("BadWorks", "form"))
        self.assertEqual(outcome(need_team, FORK, None, None), ("BadPost", "form"))
        self.assertEqual(outcome(need_team, FORK, (POSTS[0], None), None), ("BadPost", 1))
        self.assertEqual(outcome(keeps_within, FORK, None, None, None), ("BadWish", "form"))
        self.assertEqual(outcome(check_within, FORK, ONE_WAY, POSTS, TEAM, None), ("BadPaper", "form"))
        self.assertEqual(outcome(does_pass, FORK, POSTS, TEAM, (2,)), ("OutOfPlace",))


class DoesPass(unittest.TestCase):
    def test_fork(self):
        for run, due in (((), True), ((0,), True), ((0, 2), True), ((1,), True), ((1, 2), False), ((0, 2, 1), True),
                         ((0, 2, 1, 2), False)):
            self.assertIs(does_pass(FORK, POSTS, TEAM, run), due)
            self.assertIs(does_pass(FORK, POSTS, FREE_TEAM, run), True)
        self.assertEqual(outcome(does_pass, FORK, POSTS, TEAM, (2,)), ("OutOfPlace",))
        self.assertEqual(outcome(does_pass, FORK, POSTS, FREE_TEAM, (0, 2) * 200), ("ok", True))
        self.assertEqual(outcome(does_pass, FORK, POSTS, FREE_TEAM, (0, 2) * 200 + (0,)), ("OutOfPlace",))

    def test_by_chance(self):
        seen = {True: 0, False: 0}
        for works, _, posts, team in cases(163, 150):
            for run in told_runs(works, 4):
                due = told_node(works, posts, team, run) is not None
                seen[due] += 1
                self.assertIs(does_pass(works, posts, team, run), due)
        self.assertTrue(min(seen.values()) > 200, seen)


class Within(unittest.TestCase):
    def test_fork(self):
        self.assertIs(keeps_within(FORK, ONE_WAY, POSTS, TEAM), True)
        self.assertIs(keeps_within(FORK, ONE_WAY, POSTS, FREE_TEAM), False)
        self.assertEqual(within_paper(FORK, ONE_WAY, POSTS, FREE_TEAM), ("out", (1, 2)))
        self.assertIs(keeps_within(FORK, ALL3, POSTS, FREE_TEAM), True)

    def test_standings_are_not_counted(self):
        posts = (((0,), (0, 1, 2)), ((), ()))
        self.assertIs(keeps_within(CUBE, ALL3, posts, ((((), (0,)),), (((), ()),))), True)
        self.assertEqual(len(within_paper(CUBE, ALL3, posts, ((((), (0,)),), (((), ()),)))[1]), 24)

    def test_by_chance(self):
        seen = {True: 0, False: 0}
        for works, wish, posts, team in cases(164, 300):
            due = told_within(works, wish, posts, team)
            seen[due] += 1
            self.assertIs(keeps_within(works, wish, posts, team), due)
            paper = within_paper(works, wish, posts, team)
            self.assertEqual(paper[0], "within" if due else "out")
            self.assertEqual(check_within(works, wish, posts, team, paper), paper[0])
            self.assertEqual(told_check_within(works, wish, posts, team, paper), ("ok", paper[0]))
        self.assertTrue(min(seen.values()) > 20, seen)

    def test_the_team_of_sure_orders(self):
        many = 0
        chance = chance_of(165)
        while many < 40:
            works = some_works(chance, chance.randint(2, 3), 1, most=3, part=0.9)
            wish = some_wish(chance, works[0], 3, part=0.5)
            posts = some_posts(chance, works)
            if len(told_standings(works, wish)) > 8 or not can_post(works, wish, posts):
                continue
            got = outcome(team_of, works, wish, posts)
            if got[0] == "ok":
                many += 1
                self.assertIs(keeps_within(works, wish, posts, got[1]), True)
                for run in told_runs(works, 4):
                    self.assertEqual(does_pass(works, posts, got[1], run), told_run(works, wish, run) is not None)


class Bring(unittest.TestCase):
    def test_sides(self):
        held = (((0, 1, 2), (0, 1)), ((), ()))
        never_1 = ((((1,), (0, 0, 0)),), (((), ()),))
        self.assertIs(does_bring(SIDES, held, never_1), True)
        self.assertEqual(bring_paper(SIDES, held, never_1), ("brought", (((0,), (0, 0), 1), ((1,), (0, 0), 0))))
        free = ((((), (0, 0, 0)),), (((), ()),))
        self.assertIs(does_bring(SIDES, held, free), False)
        self.assertEqual(bring_paper(SIDES, held, free), ("round", (), (1, 2)))
        none = ((((0, 1), (0, 0, 0)),), (((), ()),))
        self.assertEqual(bring_paper(SIDES, held, none), ("still", ()))
        # Behind one ring the second pair forbids 1.
        once = ((((), (0, 1, 0)), ((1,), (1, 1, 1))), (((), ()),))
        self.assertIs(does_bring(SIDES, held, once), True)

    def test_the_first_place_is_a_goal(self):
        works = SIDES[:3] + (((0,),),)
        for team in (TEAM, FREE_TEAM):
            self.assertIs(does_bring(works, POSTS, team), True)
            self.assertEqual(check_bring(works, POSTS, team, ("brought", ())), "brought")
            self.assertEqual(outcome(check_bring, works, POSTS, team, ("round", (), (0, 2, 0))), ("BadPaper", "round"))
            self.assertEqual(outcome(check_bring, works, POSTS, team, ("still", ())), ("BadPaper", "still"))

    def test_places_and_deeds_are_not_counted(self):
        posts = (((), ()), ((), ()))
        self.assertIs(does_bring(CUBE[:3] + (((), (), ()),), posts, ((((), ()),), (((), ()),))), False)
        self.assertIs(does_bring(NINE, posts, ((((), ()),), (((), ()),))), False)

    def test_by_chance(self):
        seen = {}
        for works, _, posts, team in cases(166, 500, 0.3):
            due = told_bring(works, posts, team)
            self.assertIs(does_bring(works, posts, team), due == {"brought"})
            paper = bring_paper(works, posts, team)
            self.assertIn(paper[0], due)
            self.assertEqual(check_bring(works, posts, team, paper), paper[0])
            self.assertEqual(told_check_bring(works, posts, team, paper), ("ok", paper[0]))
            key = (paper[0], paper[0] == "brought" and paper[1] != ())
            seen[key] = seen.get(key, 0) + 1
        self.assertTrue(len(seen) == 4 and min(seen.values()) > 10, seen)


class Papers(unittest.TestCase):
    def test_no_papers(self):
        for thing in no_papers({"within": 1, "out": 1}):
            self.assertEqual(outcome(check_within, FORK, ONE_WAY, POSTS, TEAM, thing), ("BadPaper", "form"), thing)
        for thing in no_papers({"brought": 1, "round": 2, "still": 1}):
            self.assertEqual(outcome(check_bring, FORK, POSTS, TEAM, thing), ("BadPaper", "form"), thing)

    def test_stops_that_need_not_come(self):
        paper = within_paper(FORK, ONE_WAY, POSTS, TEAM)
        more = tuple(itertools.product(((0,), (1,), (2,)), (0, 1), ((0, 0), (1, 0))))
        found = 0
        for stop in more:
            if stop not in paper[1]:
                thing = ("within", tuple(sorted(paper[1] + (stop,))))
                due = told_check_within(FORK, ONE_WAY, POSTS, TEAM, thing)
                found += due[0] == "ok"
                self.assertEqual(outcome(check_within, FORK, ONE_WAY, POSTS, TEAM, thing), due)
        self.assertGreater(found, 0)
        for stop in (((3,), 0, (0, 0)), ((0,), 2, (0, 0)), ((0,), 0, (2, 0)), ((0,), 0, (0, 1)), ((0,), 0, (0,))):
            thing = ("within", tuple(sorted(paper[1] + (stop,))))
            self.assertEqual(outcome(check_within, FORK, ONE_WAY, POSTS, TEAM, thing), ("BadPaper", "within"))

    def test_out(self):
        # What is not wished need not be so by its last deed alone; RUNS may be of any length.
        for run, is_so in (((1, 2), True), ((1, 2, 0), True), ((1,), False), ((), False), ([1, 2], False), ((1, 2.0), False),
                           ((True, 2), False), ((1, 2, 2), False), ((0, 2) * 700 + (1, 2), True), (None, False), ((1, None), False)):
            due = ("ok", "out") if is_so else ("BadPaper", "out")
            self.assertEqual(outcome(check_within, FORK, ONE_WAY, POSTS, FREE_TEAM, ("out", run)), due)
        self.assertEqual(outcome(check_within, FORK, ONE_WAY, POSTS, TEAM, ("out", (1, 2))), ("BadPaper", "out"))

    def test_round_and_still(self):
        held = (((0, 1, 2), (0, 1)), ((), ()))
        free = ((((), (0, 0, 0)),), (((), ()),))
        for run, ring, is_so in (((), (1, 2), True), ((1,), (2, 1), True), ((1, 2) * 400, (1, 2) * 300, True), ((), (), False),
                                 ((), (1,), False), ((), (0, 2), False), ((0, 2), (0,), False), ([], (1, 2), False),
                                 ((), [1, 2], False), ((), (1, True), False), (None, (1, 2), False), ((), None, False)):
            due = ("ok", "round") if is_so else ("BadPaper", "round")
            self.assertEqual(outcome(check_bring, SIDES, held, free, ("round", run, ring)), due, (run, ring))
        none = ((((0, 1), (0, 0, 0)),), (((), ()),))
        for run, is_so in (((), True), ((0,), False), ([], False), (None, False), (0, False)):
            due = ("ok", "still") if is_so else ("BadPaper", "still")
            self.assertEqual(outcome(check_bring, SIDES, held, none, ("still", run)), due)
        self.assertEqual(outcome(check_bring, SIDES, held, free, ("still", ())), ("BadPaper", "still"))

    def test_ranks(self):
        held = (((0, 1, 2), (0, 1)), ((), ()))
        team = ((((1,), (0, 0, 0)),), (((), ()),))
        for one, two, is_so in ((1, 0, True), (10 ** 50, 3, True), (0, 0, False), (0, 1, False), (1, -1, False), (1, False, False),
                                (True, 0, False), (1.0, 0, False), (None, 0, False), (2, 1.0, False)):
            paper = ("brought", (((0,), (0, 0), one), ((1,), (0, 0), two)))
            due = ("ok", "brought") if is_so else ("BadPaper", "brought")
            self.assertEqual(outcome(check_bring, SIDES, held, team, paper), due)

    def test_papers_that_are_otherwise(self):
        chance = chance_of(167)
        many = {}
        for works, wish, posts, team in cases(168, 60):
            paper = within_paper(works, wish, posts, team)
            if len(paper[1]) < 12:
                hold_papers(self, check_within, told_check_within, (works, wish, posts, team), paper, chance, 100, many)
            paper = bring_paper(works, posts, team)
            if len(paper[1]) < 12:
                hold_papers(self, check_bring, told_check_bring, (works, posts, team), paper, chance, 100, many)
        self.assertTrue(len(many) == 5 and min(many.values()) > 4, many)

    def test_papers_of_others(self):
        chance = chance_of(169)
        many = 0
        for works, wish, posts, team in cases(170, 150):
            paper = within_paper(works, wish, posts, team)
            paper_2 = bring_paper(works, posts, team)
            near = (wish[0], tuple(sorted({0} | {state for state in range(len(wish[0])) if chance.random() < 0.7})))
            other = some_team(chance, posts, 0.3)
            far = works[:3] + (tuple(some_lot(chance, len(one[1]), 0.4) for one in works[1]),)
            for args in ((works, near, posts, team), (works, wish, posts, other)):
                due = told_check_within(*args, paper)
                many += due[0] == "ok"
                self.assertEqual(outcome(check_within, *args, paper), due)
            for args in ((far, posts, team), (works, posts, other)):
                due = told_check_bring(*args, paper_2)
                many += due[0] == "ok"
                self.assertEqual(outcome(check_bring, *args, paper_2), due)
        self.assertGreater(many, 100)


if __name__ == "__main__":
    unittest.main()
