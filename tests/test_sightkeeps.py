"""[40] to [43] What a post keeps by a SIGHT: worksward/sightkeeps.py, worksward/sightkeeppapers.py."""

import itertools
import unittest

from common import (CUBE, RING, SHARED, STILL, TRAP, TWELVE, all_sights, chance_of, hold_papers, mutations, no_papers, outcome,
                    same_kind, some_lot, some_wish, some_works, told_ascending, told_good, told_int, told_judged,
                    told_look, told_lot_of, told_lots, told_next, told_outs, told_run, told_runs, told_standings,
                    told_start, told_tuple)
from worksward.sightkeeppapers import check_sight
from worksward.sightkeeps import can_keep_by, least_order, least_sights, sight_paper

ALL2 = (((0, 0),), (0,))
ALL3 = (((0, 0, 0),), (0,))
SIZES = {"kept": 2, "free": 2, "alike": 4}
# Never deed 1 right behind deed 1.
APART = (((0, 1), (0, 2), (2, 2)), (0, 1))
LOOSE = RING[:2] + ((),) + RING[3:]
# A switch: 0 and 1 lead from the first place to two others; 2 is to be done at the one alone.
FORK = (3, (((0, 1, 2), (((0, 1), (1, 2)), ((2, 0),), ((2, 0),))),), (), ((0,),))
# Deed 2 right behind deed 0 alone.
ONE_WAY = (((1, 0, 2), (1, 0, 0), (2, 2, 2)), (0, 1))


def told_free(works, wish):
    """Whether some RUN leads out by a deed of FREE."""
    return any(deed in works[2] for pair in told_standings(works, wish) for deed in told_outs(works, wish, pair))


def told_can(works, wish, sight):
    """Whether it can be kept, by the lots of STANDINGS behind LOOKS."""
    if told_free(works, wish):
        return False
    for lot in told_lots(works, wish, sight):
        for one, other in itertools.product(lot, lot):
            for deed in told_outs(works, wish, other):
                if told_good(works, wish, one, deed) is not None:
                    return False
    return True


def told_check(works, wish, sight, paper):
    def holds():
        if paper[0] == "kept":
            return told_table(works, wish, sight, paper[1])
        if paper[0] == "free":
            return told_way_out(works, wish, paper[1])
        return told_alike(works, wish, sight, *paper[1:])
    return told_judged(SIZES, paper, holds)


def told_is_row(works, wish, thing, many):
    """Whether it is a tuple of so many STANDINGS."""
    known = told_standings(works, wish)
    return told_tuple(thing, many, many) and all(any(same_kind(part, pair) for pair in known) for part in thing)


def told_table(works, wish, sight, table):
    if type(table) is not tuple or not all(told_is_row(works, wish, row, 2) for row in table) or not told_ascending(table):
        return False
    if ((told_start(works), 0),) * 2 not in table:
        return False
    for one, two in table:
        for deed in range(works[0]):
            after, then = told_next(works, wish, one, deed), told_next(works, wish, two, deed)
            if "out" in (after, then) and deed in works[2]:
                return False
            if after not in (None, "out"):
                if then == "out":
                    return False
                if deed not in sight and (after, two) not in table:
                    return False
                if deed in sight and then is not None and (after, then) not in table:
                    return False
            if then not in (None, "out") and deed not in sight and (one, then) not in table:
                return False
    return True


def told_way_out(works, wish, run):
    if type(run) is not tuple or not run or not told_int(run[-1], 0, works[0] - 1):
        return False
    pair = told_run(works, wish, run[:-1])
    return pair is not None and run[-1] in told_outs(works, wish, pair) and run[-1] in works[2]


def told_alike(works, wish, sight, one, other, deed):
    first, second = told_run(works, wish, one), told_run(works, wish, other)
    if first is None or second is None or not told_int(deed, 0, works[0] - 1):
        return False
    if told_look(sight, one) != told_look(sight, other):
        return False
    return told_good(works, wish, first, deed) is not None and deed in told_outs(works, wish, second)


def cases(seed, many, most=12):
    chance = chance_of(seed)
    found = 0
    while found < many:
        works = some_works(chance, chance.randint(2, 4), chance.randint(1, 2), most=3, part=0.8)
        if chance.random() < 0.5:
            works = works[:2] + ((),) + works[3:]
        wish = some_wish(chance, works[0], 4, part=0.5)
        if len(told_standings(works, wish)) <= most:
            # Of such in which little can be done or nothing leads out just a few.
            if told_outs(works, wish, (told_start(works), 0)) == [] or chance.random() < 0.3:
                found += 1
                yield works, wish, some_lot(chance, works[0], 0.4)


SIXTEEN = TWELVE[:1] + (TWELVE[1][:1] + (((1,), (((1, 1),), ((1, 2),), ((1, 3),), ((1, 0),))),),) + TWELVE[2:]


class CanKeepBy(unittest.TestCase):
    def test_fork(self):
        self.assertIs(can_keep_by(FORK, ALL3, ()), True)
        # To forbid deed 2 behind 1 the post must tell 0 from 1.
        self.assertEqual([sight for sight in all_sights(3) if can_keep_by(FORK, ONE_WAY, sight)],
                         [sight for sight in all_sights(3) if told_can(FORK, ONE_WAY, sight)])
        self.assertIs(can_keep_by(FORK, ONE_WAY, ()), False)
        self.assertIs(can_keep_by(FORK, ONE_WAY, (0, 1, 2)), True)

    def test_deeds_of_free_lead_out(self):
        self.assertIs(can_keep_by(RING, APART, (0, 1)), False)
        self.assertIs(can_keep_by(LOOSE, APART, (0, 1)), True)
        self.assertEqual(sight_paper(RING, APART, (0, 1)), ("free", (0, 0, 1, 1)))
        self.assertEqual(least_sights(RING, APART), ())

    def test_nothing_leads_out(self):
        for sight in all_sights(2):
            self.assertIs(can_keep_by(RING, ALL2, sight), True)
        self.assertEqual(least_sights(RING, ALL2), ((),))
        self.assertEqual(sight_paper(STILL, (((0,),), (0,)), ()), ("kept", ((((0,), 0), ((0,), 0)),)))

    def test_by_chance(self):
        seen = {}
        for works, wish, sight in cases(70, 700):
            due = told_can(works, wish, sight)
            self.assertIs(can_keep_by(works, wish, sight), due)
            paper = sight_paper(works, wish, sight)
            self.assertEqual(paper[0] == "kept", due)
            self.assertEqual(paper[0] == "free", told_free(works, wish))
            self.assertEqual(check_sight(works, wish, sight, paper), paper[0])
            self.assertEqual(told_check(works, wish, sight, paper), ("ok", paper[0]))
            seen[paper[0]] = seen.get(paper[0], 0) + 1
        self.assertEqual(len(seen), 3)
        self.assertTrue(min(seen.values()) > 10, seen)

    def test_greater_sights_keep_what_lesser_ones_do(self):
        for works, wish, sight in cases(71, 60):
            for greater in all_sights(works[0]):
                if can_keep_by(works, wish, sight) and set(sight) <= set(greater):
                    self.assertIs(can_keep_by(works, wish, greater), True)
            self.assertIs(can_keep_by(works, wish, tuple(range(works[0]))), not told_free(works, wish))


class LeastSights(unittest.TestCase):
    def test_by_chance(self):
        many = {}
        for works, wish, _ in cases(72, 300):
            keeping = [sight for sight in all_sights(works[0]) if told_can(works, wish, sight)]
            due = [sight for sight in keeping if not any(set(other) < set(sight) for other in keeping)]
            self.assertEqual(least_sights(works, wish), tuple(sorted(due)))
            many[tuple(map(len, due))] = many.get(tuple(map(len, due)), 0) + 1
        self.assertTrue(len(many) > 4, many)

    def test_several(self):
        self.assertEqual(least_sights(FORK, ONE_WAY), ((0, 2), (1,)))

    def test_six_deeds(self):
        chance = chance_of(73)
        for _ in range(25):
            works = some_works(chance, 6, 2, most=3, part=0.5)
            works = works[:2] + ((),) + works[3:]
            wish = some_wish(chance, 6, 2, part=0.5)
            if len(told_standings(works, wish)) <= 12:
                keeping = [sight for sight in all_sights(6) if can_keep_by(works, wish, sight)]
                due = [sight for sight in keeping if not any(set(other) < set(sight) for other in keeping)]
                self.assertEqual(least_sights(works, wish), tuple(sorted(due)))


class LeastOrder(unittest.TestCase):
    def test_looks(self):
        self.assertEqual(least_order(FORK, ONE_WAY, (1,), (1,)), (2,))
        self.assertEqual(least_order(FORK, ONE_WAY, (0, 1), ()), ())
        self.assertEqual(least_order(FORK, ONE_WAY, (0, 1, 2), (1,)), (2,))
        self.assertEqual(least_order(FORK, ONE_WAY, (0, 1, 2), (0,)), ())
        self.assertEqual(outcome(least_order, FORK, ONE_WAY, (0,), (0,)), ("Nothing",))
        self.assertEqual(least_order(LOOSE, APART, (0, 1), (0, 0, 1)), (1,))
        self.assertEqual(least_order(LOOSE, APART, (0, 1), (0, 0)), ())

    def test_by_chance(self):
        orders = 0
        for works, wish, sight in cases(74, 120):
            can = told_can(works, wish, sight)
            for run in told_runs(works, 4):
                look = told_look(sight, run)
                lot = told_lot_of(works, wish, sight, look)
                got = outcome(least_order, works, wish, sight, look)
                if not lot:
                    self.assertEqual(got, ("OutOfPlace",))
                elif not can:
                    self.assertEqual(got, ("Nothing",))
                else:
                    due = tuple(sorted({deed for pair in lot for deed in told_outs(works, wish, pair)}))
                    self.assertEqual(got, ("ok", due))
                    orders += len(due)
        self.assertGreater(orders, 50)

    def test_what_passes_by_least_orders_is_wished(self):
        for works, wish, sight in cases(75, 60):
            if can_keep_by(works, wish, sight):
                for run in told_runs(works, 4):
                    passes = True
                    for k in range(len(run)):
                        got = outcome(least_order, works, wish, sight, told_look(sight, run[:k]))
                        passes = passes and got[0] == "ok" and run[k] not in got[1]
                    self.assertEqual(passes, told_run(works, wish, run) is not None)

    def test_looks_of_no_wished_run(self):
        self.assertEqual(outcome(least_order, LOOSE, APART, (0,), (1,)), ("OutOfPlace",))
        self.assertEqual(outcome(least_order, LOOSE, APART, (0, 1), (1,)), ("OutOfPlace",))
        self.assertEqual(outcome(least_order, LOOSE, APART, (0, 1), (0, 0, 1, 1)), ("OutOfPlace",))
        self.assertEqual(outcome(least_order, LOOSE, APART, (), (0,)), ("OutOfPlace",))

    def test_long_looks(self):
        self.assertEqual(least_order(LOOSE, APART, (0, 1), (0, 0, 1, 0) * 100), ())
        self.assertEqual(outcome(least_order, LOOSE, APART, (0, 1), (0, 0, 1, 0) * 100 + (0,)), ("OutOfPlace",))


class Bounds(unittest.TestCase):
    def test_12_standings_and_more(self):
        self.assertEqual(len(told_standings(TWELVE, ALL2)), 12)
        self.assertIs(can_keep_by(TWELVE, ALL2, ()), True)
        self.assertEqual(len(sight_paper(TWELVE, ALL2, ())[1]), 144)
        works, wish = SIXTEEN, ALL2
        self.assertEqual(len(told_standings(works, wish)), 16)
        for call, more in ((can_keep_by, ((),)), (sight_paper, ((),)), (least_order, ((0,), (0,))), (least_sights, ()),
                           (check_sight, ((), None))):
            self.assertEqual(outcome(call, works, wish, *more), ("TooMany", 12))
        self.assertEqual(outcome(least_order, works, wish, (0,), (1,)), ("OutOfPlace",))
        self.assertEqual(outcome(check_sight, works, wish, (2,), None), ("OutOfPlace",))

    def test_13_standings(self):
        chance = chance_of(76)
        found = {12: 0, 13: 0}
        while min(found.values()) < 5:
            works = some_works(chance, 2, 2, part=0.8)
            wish = some_wish(chance, 2, 4)
            many = len(told_standings(works, wish))
            if many not in found:
                continue
            found[many] += 1
            got = outcome(can_keep_by, works, wish, (0,))
            self.assertEqual(got, ("ok", told_can(works, wish, (0,))) if many == 12 else ("TooMany", 12))
            got = outcome(least_order, works, wish, (0,), ())
            due = ("ok", "OutOfPlace", "Nothing") if many == 12 else ("TooMany",)
            self.assertIn(got[0], due)
            self.assertEqual(outcome(least_sights, works, wish)[0], "ok" if many == 12 else "TooMany")
            paper = sight_paper(works, wish, (1,)) if many == 12 else None
            self.assertEqual(outcome(check_sight, works, wish, (1,), paper), ("ok", paper[0]) if paper else ("TooMany", 12))

    def test_too_many_comes_ahead_of_nothing(self):
        works, wish = CUBE[:2] + ((0,),) + CUBE[3:], (((1, 0, 0), (1, 1, 1)), (0,))
        self.assertEqual(outcome(least_order, works, wish, (1,), (1,)), ("Nothing",))
        bad = (((1, 0, 0), (2, 0, 0), (2, 2, 2)), (0, 1))
        self.assertTrue(len(told_standings(works, bad)) > 12)
        self.assertEqual(outcome(least_order, works, bad, (1,), (1,)), ("TooMany", 12))


class Papers(unittest.TestCase):
    def test_no_papers(self):
        for thing in no_papers({"kept": 1, "free": 1, "alike": 3}):
            self.assertEqual(outcome(check_sight, FORK, ONE_WAY, (0,), thing), ("BadPaper", "form"), thing)

    def test_alike(self):
        for one, other, deed in (((0,), (1,), 2), ((0, 2, 0), (1,), 2), ((0,) + (2, 0) * 600, (1,) + (2, 1) * 0, 2)):
            got = outcome(check_sight, FORK, ONE_WAY, (), ("alike", one, other, deed))
            self.assertEqual(got, told_check(FORK, ONE_WAY, (), ("alike", one, other, deed)))
        for told in ((None, (1,), 2), ((0,), [1], 2), ((0,), (1,), True), ((0,), (1,), 2.0), ((0,), (1,), None), ((0,), (1,), 3),
                     ((0,), (1,), (2,)), ((0,), (1,), []), ((0, 9), (1,), 2), ((False,), (1,), 2), ((0,), (True,), 2)):
            self.assertEqual(outcome(check_sight, FORK, ONE_WAY, (), ("alike", *told)), ("BadPaper", "alike"))

    def test_standings_of_papers_are_such(self):
        paper = sight_paper(LOOSE, APART, (0, 1))
        self.assertEqual(paper[0], "kept")
        for extra in ((((0,), 1), ((0,), 1)), (((0,), 0), ((1,), 1)), (((9,), 0), ((0,), 0))):
            table = tuple(sorted(paper[1] + (extra,)))
            self.assertEqual(outcome(check_sight, LOOSE, APART, (0, 1), ("kept", table)), ("BadPaper", "kept"), extra)
            self.assertEqual(told_check(LOOSE, APART, (0, 1), ("kept", table)), ("BadPaper", "kept"))

    def test_tables_that_have_all_pairs_but_a_clash(self):
        many = {"alike": 0, "free": 0}
        for works, wish, sight in cases(82, 600, 8):
            paper = sight_paper(works, wish, sight)
            if paper[0] != "kept":
                many[paper[0]] += 1
                known = {((told_start(works), 0),) * 2}
                waiting = list(known)
                while waiting:
                    one, two = waiting.pop()
                    for deed in range(works[0]):
                        after, then = told_good(works, wish, one, deed), told_good(works, wish, two, deed)
                        found = [(after, then)] if deed in sight else [(after, two), (one, then)]
                        for pair in found:
                            if None not in pair and pair not in known:
                                known.add(pair)
                                waiting.append(pair)
                every = tuple(sorted(itertools.product(told_standings(works, wish), repeat=2)))
                for table in (tuple(sorted(known)), every):
                    got = outcome(check_sight, works, wish, sight, ("kept", table))
                    self.assertEqual(got, ("BadPaper", "kept"))
        self.assertTrue(min(many.values()) > 5, many)

    def test_free(self):
        for run, is_so in (((0, 0, 1, 1), True), ((0, 0, 1, 0) * 500 + (0, 0, 1, 1), True), ((0, 1), False), ((1,), False), ((), False),
                           ((0, 0, 1), False), ((0, 0, 1, 1, 1), False), ([0, 0, 1, 1], False), ((0, 0, 1, True), False), (None, False),
                           ((0, 0, 1, 1.0), False), ((0, 0, True, 1), False), ((0, 0, 1, 5), False), ((0, 0, 1, None), False), ((0, 0, 1, []), False)):
            due = ("ok", "free") if is_so else ("BadPaper", "free")
            self.assertEqual(outcome(check_sight, RING, APART, (0,), ("free", run)), due, run)
        self.assertEqual(outcome(check_sight, LOOSE, APART, (0,), ("free", (0, 0, 1, 1))), ("BadPaper", "free"))

    def test_pairs_may_be_more_than_needed(self):
        works, wish = TWELVE, ALL2
        every = tuple(sorted(itertools.product(told_standings(works, wish), repeat=2)))
        self.assertEqual(check_sight(works, wish, (0, 1), ("kept", every)), "kept")
        self.assertLess(len(sight_paper(works, wish, (0, 1))[1]), 144)

    def test_papers_that_are_otherwise(self):
        chance = chance_of(77)
        many = {}
        for works, wish, sight in cases(78, 60, 5):
            hold_papers(self, check_sight, told_check, (works, wish, sight), sight_paper(works, wish, sight), chance, 150, many)
        self.assertEqual(len(many), 3)

    def test_papers_of_others(self):
        chance = chance_of(79)
        many = 0
        for works, wish, sight in cases(80, 80, 8):
            paper = sight_paper(works, wish, sight)
            for _ in range(3):
                other = works[:2] + (some_lot(chance, works[0], 0.3),) + works[3:]
                near = (wish[0], tuple(sorted({0} | {state for state in range(len(wish[0])) if chance.random() < 0.7})))
                for args in ((other, wish, sight), (works, near, sight), (works, wish, some_lot(chance, works[0]))):
                    if len(told_standings(*args[:2])) <= 12:
                        due = told_check(*args, paper)
                        many += due[0] == "ok"
                        self.assertEqual(outcome(check_sight, *args, paper), due)
        self.assertGreater(many, 100)

    def test_rows_of_short_runs(self):
        for works, wish, sight in cases(81, 25, 6):
            runs = told_runs(works, 2)
            for one, other in itertools.product(runs, runs):
                for deed in range(works[0]):
                    paper = ("alike", one, other, deed)
                    self.assertEqual(outcome(check_sight, works, wish, sight, paper), told_check(works, wish, sight, paper))
            for run in told_runs(works, 4):
                paper = ("free", run)
                self.assertEqual(outcome(check_sight, works, wish, sight, paper), told_check(works, wish, sight, paper))


if __name__ == "__main__":
    unittest.main()
