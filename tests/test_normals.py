"""[44], [45] The NORMAL PART of a WISH: worksward/normals.py, worksward/normalpapers.py."""

import unittest

from common import (CUBE, RING, SHARED, STILL, TRAP, TWELVE, all_sights, chance_of, hold_papers, no_papers, outcome, same_kind,
                    some_lot, some_wish, some_works, told_ascending, told_int, told_judged, told_look, told_lot, told_next,
                    told_rows, told_run, told_runs, told_standings, told_start, told_tuple)
from worksward.normalpapers import check_normal
from worksward.normals import has_normal, in_normal, normal_order, normal_paper, normal_runs
from worksward.sightkeeps import can_keep_by

ALL2 = (((0, 0),), (0,))
ALL3 = (((0, 0, 0),), (0,))
# Never deed 1 right behind deed 1; never deed 1 at all.
APART = (((0, 1), (0, 2), (2, 2)), (0, 1))
NO_1 = (((0, 1), (1, 1)), (0,))
LOOSE = RING[:2] + ((),) + RING[3:]
SIXTEEN = TWELVE[:1] + (TWELVE[1][:1] + (((1,), (((1, 1),), ((1, 2),), ((1, 3),), ((1, 0),))),),) + TWELVE[2:]


def told_grown_all(works, wish, sight, lot):
    """All pairs to which deeds that are not seen lead, "out" among them."""
    while True:
        more = {told_next(works, wish, pair, deed) for pair in lot - {"out"} for deed in range(works[0]) if deed not in sight}
        more -= {None}
        if more <= lot:
            return frozenset(lot)
        lot = lot | more


def told_behind(works, wish, sight, lot, deed):
    """The ESTIMATE behind a seen deed, as a frozenset with "out" if something is; empty if it cannot come."""
    lot = frozenset(told_next(works, wish, pair, deed) for pair in lot if pair != "out") - {None}
    return told_grown_all(works, wish, sight, lot)


def told_table(works, wish, sight):
    """The ESTIMATES that come, each with those behind seen deeds."""
    first = told_grown_all(works, wish, sight, frozenset([(told_start(works), 0)]))
    table = {}
    waiting = [first]
    while waiting:
        lot = waiting.pop()
        if lot not in table:
            steps = {} if "out" in lot else {deed: told_behind(works, wish, sight, lot, deed) for deed in sight}
            table[lot] = {deed: after for deed, after in steps.items() if after}
            waiting += list(table[lot].values())
    return first, table


def told_safe(works, table):
    """The SAFE ESTIMATES: what stays when those are taken away that cannot be SAFE, until nothing changes."""
    safe = {lot for lot in table if "out" not in lot}
    while True:
        left = {lot for lot in safe if all(after in safe for deed, after in table[lot].items() if deed in works[2])}
        if left == safe:
            return safe
        safe = left


def told_state_of(works, wish, sight, look):
    """The ESTIMATE of a LOOK of a RUN of the NORMAL PART, or None."""
    first, table = told_table(works, wish, sight)
    safe = told_safe(works, table)
    lot = first
    for deed in look:
        if lot not in safe or deed not in table[lot]:
            return None
        lot = table[lot][deed]
    return lot if lot in safe else None


def told_order(works, wish, sight, lot):
    _, table = told_table(works, wish, sight)
    safe = told_safe(works, table)
    return tuple(deed for deed in sight if deed in table[lot] and table[lot][deed] not in safe)


def told_check(works, wish, sight, paper):
    return told_judged({"normal": 3}, paper, lambda: told_holds(works, wish, sight, *paper[1:]))


def told_is_estimate(works, wish, thing):
    known = told_standings(works, wish)
    if not told_tuple(thing, 2, 2) or type(thing[0]) is not tuple or type(thing[1]) is not bool:
        return False
    return all(any(same_kind(part, pair) for pair in known) for part in thing[0]) and told_ascending(thing[0])


def told_holds(works, wish, sight, good, lost):
    if type(good) is not tuple or type(lost) is not tuple:
        return False
    if not all(told_tuple(row, 2, 2) and told_is_estimate(works, wish, row[0]) and told_lot(row[1], works[0]) for row in good):
        return False
    if not all(told_tuple(row, 3, 3) and told_is_estimate(works, wish, row[0]) and type(row[1]) is int and row[1] >= 0
               for row in lost):
        return False
    names = [row[0] for row in good + lost]
    if len(set(names)) < len(names):
        return False
    if sorted(good) != list(good) or [row[0] for row in lost] != sorted(row[0] for row in lost):
        return False
    orders, ranks = dict(good), {row[0]: row[1] for row in lost}

    def name_of(lot):
        return (tuple(sorted(lot - {"out"})), "out" in lot)

    def behind(known, deed):
        return told_behind(works, wish, sight, frozenset(known[0]), deed)
    first = name_of(told_grown_all(works, wish, sight, frozenset([(told_start(works), 0)])))
    if first not in orders and first not in ranks:
        return False
    for known, order in good:
        due = []
        for deed in sight:
            after = behind(known, deed)
            if after and name_of(after) in ranks:
                due.append(deed)
            elif after and name_of(after) not in orders:
                return False
        if known[1] or order != tuple(due) or set(order) & set(works[2]):
            return False
    for known, rank, deed in lost:
        if known[1]:
            if deed is not None:
                return False
        elif not told_int(deed, 0, works[0] - 1) or deed not in works[2] or deed not in sight:
            return False
        elif ranks.get(name_of(behind(known, deed)), rank) >= rank:
            return False
    return True


def cases(seed, many, most=12):
    chance = chance_of(seed)
    found = 0
    while found < many:
        works = some_works(chance, chance.randint(1, 4), chance.randint(1, 2), most=3, part=0.8)
        works = works[:2] + (some_lot(chance, works[0], 0.4),) + works[3:]
        wish = some_wish(chance, works[0], 4, part=0.6)
        if len(told_standings(works, wish)) <= most:
            found += 1
            yield works, wish, some_lot(chance, works[0], 0.6)


class Normals(unittest.TestCase):
    def test_with_and_without_runs(self):
        # Deed 1 leads out behind 0, 0, 1, and cannot be stopped: to see it is not enough, to see 0 is.
        for sight in all_sights(2):
            self.assertIs(has_normal(RING, APART, sight), 0 in sight)
        self.assertIs(has_normal(LOOSE, APART, ()), False)
        self.assertIs(has_normal(LOOSE, APART, (1,)), True)
        self.assertIs(has_normal(RING, ALL2, ()), True)
        self.assertIs(has_normal(STILL, (((0,),), (0,)), ()), True)

    def test_runs_and_orders(self):
        # Behind 0 the second 0 leads to where deed 1 cannot be stopped from coming twice.
        self.assertEqual(normal_order(RING, APART, (0,), ()), ())
        self.assertEqual(normal_order(RING, APART, (0, 1), (0,)), (0,))
        self.assertIs(in_normal(RING, APART, (0, 1), (0,)), True)
        self.assertIs(in_normal(RING, APART, (0, 1), (0, 0)), False)
        self.assertEqual(outcome(normal_order, RING, APART, (0, 1), (0, 0)), ("OutOfPlace",))
        self.assertEqual([normal_runs(RING, APART, (0, 1), many) for many in range(4)], [1, 1, 0, 0])
        self.assertEqual(normal_order(LOOSE, APART, (0, 1), (0, 0, 1)), (1,))
        self.assertEqual([normal_runs(RING, ALL2, (), many) for many in range(6)], [1, 1, 1, 2, 3, 4])
        self.assertEqual([normal_runs(RING, APART, (1,), many) for many in range(3)], [0, 0, 0])

    def test_by_chance(self):
        seen = {True: 0, False: 0}
        orders = 0
        for works, wish, sight in cases(100, 250):
            first, table = told_table(works, wish, sight)
            safe = told_safe(works, table)
            has = first in safe
            seen[has] += 1
            self.assertIs(has_normal(works, wish, sight), has)
            counts = {}
            for run in told_runs(works, 4):
                look = told_look(sight, run)
                lots = [told_state_of(works, wish, sight, look[:k]) for k in range(len(look) + 1)]
                is_in = None not in lots
                self.assertIs(in_normal(works, wish, sight, run), is_in)
                counts[len(run)] = counts.get(len(run), 0) + is_in
                got = outcome(normal_order, works, wish, sight, look)
                due = told_order(works, wish, sight, lots[-1]) if is_in else None
                self.assertEqual(got, ("ok", due) if is_in else ("OutOfPlace",))
                orders += bool(due)
                if is_in:
                    self.assertIsNotNone(told_run(works, wish, run))
                    self.assertFalse(set(due) & set(works[2]))
            for length in range(5):
                self.assertEqual(normal_runs(works, wish, sight, length), counts.get(length, 0))
        self.assertTrue(min(seen.values()) > 20 and orders > 50, (seen, orders))

    def test_just_its_runs_pass_by_its_orders(self):
        for works, wish, sight in cases(101, 60):
            if has_normal(works, wish, sight):
                for run in told_runs(works, 4):
                    passes = True
                    for k in range(len(run)):
                        passes = passes and run[k] not in normal_order(works, wish, sight, told_look(sight, run[:k]))
                        if not passes:
                            break
                    self.assertIs(in_normal(works, wish, sight, run), passes)

    def test_it_is_normal_and_the_greatest_one(self):
        # Each RUN of some NORMAL lot is of it: here of the lot of all wished RUNS, where it is NORMAL.
        for works, wish, _ in cases(102, 80):
            for sight in all_sights(works[0]):
                runs = told_runs(works, 4)
                if can_keep_by(works, wish, sight) and all(told_run(works, wish, run) is not None for run in runs):
                    self.assertTrue(all(in_normal(works, wish, sight, run) for run in runs))

    def test_all_deeds_seen(self):
        bad = 0
        for works, wish, _ in cases(103, 100):
            # From these STANDINGS a row of deeds of FREE leads to what is not wished.
            lost = set()
            while True:
                more = {pair for pair in told_standings(works, wish) for deed in works[2]
                        if told_next(works, wish, pair, deed) in lost | {"out"}}
                if more <= lost:
                    break
                lost |= more
            for run in told_runs(works, 3):
                pairs = [told_run(works, wish, run[:k]) for k in range(len(run) + 1)]
                due = None not in pairs and not any(pair in lost for pair in pairs)
                self.assertIs(in_normal(works, wish, tuple(range(works[0])), run), due)
                bad += not due and None not in pairs
        self.assertGreater(bad, 30)

    def test_lengths(self):
        self.assertEqual(normal_runs(LOOSE, ALL2, (), 40), normal_runs(LOOSE, ALL2, (0, 1), 40))
        self.assertEqual(normal_runs(CUBE[:1] + (CUBE[1][:1],) + ((), ((),)), ALL3, (), 40), 1)
        for length in (-1, 41, True, 1.0, None, "1", (1,)):
            self.assertEqual(outcome(normal_runs, RING, APART, (), length), ("OutOfPlace",))

    def test_looks(self):
        for look in ((1,), (0, 1), (0, 0), (2,), (1, 0), (1, 1, 0), (0, 1, 0)):
            self.assertEqual(outcome(normal_order, RING, APART, (0,), look), ("OutOfPlace",))
        self.assertEqual(outcome(normal_order, RING, APART, (1,), ()), ("OutOfPlace",))
        self.assertEqual(normal_order(LOOSE, ALL2, (0,), (0,) * 400), ())
        self.assertEqual(outcome(normal_order, LOOSE, ALL2, (0,), (0,) * 401), ("OutOfPlace",))


# 12 STANDINGS or fewer of which just 200 ESTIMATES come, 201, and more.
ALL4 = (((0, 0, 0, 0),), (0,))
ALL5 = (((0, 0, 0, 0, 0),), (0,))
JUST200 = ((5, (((0, 1, 3, 4), (((1, 1), (3, 2)), ((1, 3), (3, 0), (4, 1)), ((1, 2), (3, 3), (4, 3)),
                                ((0, 1), (1, 1), (3, 1), (4, 3)))),
                ((0, 1, 2, 4), (((0, 0), (1, 0), (2, 0), (4, 0)),)),
                ((0, 1, 2, 4), (((0, 2), (1, 2), (2, 1), (4, 1)), ((0, 1), (1, 2), (2, 1), (4, 0)), ((1, 1), (2, 2), (4, 0))))),
            (), ((2, 3), (), (0, 2))), ALL5, (1, 2, 3, 4))
ONE_MORE = ((4, (((1, 2, 3), (((1, 0), (2, 2)), ((1, 0), (2, 1), (3, 0)), ((1, 2), (2, 0), (3, 1)))),
                 ((0, 1, 2), (((2, 1),), ((2, 2),), ((1, 3), (2, 3)), ((2, 0),)))), (), ((0, 1, 2), (0, 1, 3))), ALL4, (0, 2, 3))
MANY_MORE = ((5, (((1, 2, 3, 4), (((1, 1), (2, 3), (3, 0), (4, 3)), ((1, 0), (2, 0), (3, 3)), ((2, 1), (3, 1), (4, 3)),
                                  ((1, 1), (2, 0), (3, 2)))),
                  ((0, 3, 4), (((0, 0), (3, 2), (4, 2)), ((0, 2), (3, 1), (4, 1)), ((3, 0), (4, 1))))), (), ((1, 2, 3), (2,))),
             ALL5, (0, 1, 2, 3))


class Bounds(unittest.TestCase):
    def test_12_standings_and_more(self):
        self.assertIs(has_normal(TWELVE, ALL2, ()), True)
        for call, more in ((has_normal, ()), (in_normal, ((0,),)), (normal_order, ((0,),)), (normal_order, ((1,),)),
                           (normal_runs, (3,)), (normal_paper, ()), (check_normal, (None,))):
            self.assertEqual(outcome(call, SIXTEEN, ALL2, (0,), *more), ("TooMany", 12))
        for call, more in ((in_normal, ((5,),)), (normal_order, ((5,),)), (normal_runs, (41,)), (normal_order, ((0,) * 401,))):
            self.assertEqual(outcome(call, SIXTEEN, ALL2, (0,), *more), ("OutOfPlace",))

    def test_200_estimates_and_more(self):
        for args, many in ((JUST200, 200), (ONE_MORE, 201), (MANY_MORE, 296)):
            self.assertLessEqual(len(told_standings(*args[:2])), 12)
            self.assertEqual(len(told_table(*args)[1]), many)
            paper = normal_paper(*args) if many == 200 else ("normal", (), ())
            for call, more in ((has_normal, ()), (in_normal, ((),)), (normal_order, ((),)), (normal_runs, (3,)), (normal_paper, ()),
                               (check_normal, (paper,))):
                got = outcome(call, *args, *more)
                self.assertEqual(got if many > 200 else got[0], ("TooMany", 200) if many > 200 else "ok", call)
            if many > 200:
                for thing in (None, (), ("normal",), ("normal", 0, 0)):
                    self.assertEqual(outcome(check_normal, *args, thing), ("TooMany", 200))
                # A LOOK of no RUN is refused behind TooMany here, one that is none as told ahead of it.
                self.assertEqual(outcome(normal_order, *args, (args[0][0] - 1,) * 30), ("TooMany", 200))
                self.assertEqual(outcome(normal_order, *args, (6,)), ("OutOfPlace",))
                self.assertEqual(outcome(normal_order, *args, (0,) * 401), ("OutOfPlace",))
                self.assertEqual(outcome(in_normal, *args, (6,)), ("OutOfPlace",))
                self.assertEqual(outcome(normal_runs, *args, 41), ("OutOfPlace",))

    def test_papers_of_many_estimates(self):
        paper = normal_paper(*JUST200)
        self.assertEqual(len(paper[1]) + len(paper[2]), 200)
        self.assertEqual(told_check(*JUST200, paper), ("ok", "normal"))
        paper = normal_paper(TWELVE, ALL2, (0, 1))
        self.assertEqual(len(paper[1]), 12)
        self.assertEqual(check_normal(TWELVE, ALL2, (0, 1), paper), "normal")


class Papers(unittest.TestCase):
    def test_no_papers(self):
        for thing in no_papers({"normal": 2}):
            self.assertEqual(outcome(check_normal, RING, APART, (0,), thing), ("BadPaper", "form"), thing)

    def test_papers(self):
        seen = {True: 0, False: 0}
        for works, wish, sight in cases(105, 250):
            paper = normal_paper(works, wish, sight)
            self.assertEqual(check_normal(works, wish, sight, paper), "normal")
            self.assertEqual(told_check(works, wish, sight, paper), ("ok", "normal"))
            first, table = told_table(works, wish, sight)
            safe = told_safe(works, table)
            name = (tuple(sorted(first - {"out"})), "out" in first)
            self.assertEqual(name in [row[0] for row in paper[1]], first in safe)
            seen[first in safe] += 1
        self.assertTrue(min(seen.values()) > 20, seen)

    def test_hand_made(self):
        one, two, three = ((0,), 0), ((1,), 0), ((2,), 0)
        # RING, all wished, deed 0 seen: behind each 0 the place is known.
        good = ((((one,), False), ()), (((two,), False), ()), (((three,), False), ()))
        self.assertEqual(check_normal(RING, ALL2, (0,), ("normal", good, ())), "normal")
        # ESTIMATES need not come, nor have all that unseen deeds lead to.
        for extra in (((), False), ((one, two), False)):
            self.assertEqual(outcome(check_normal, RING, ALL2, (0,), ("normal", tuple(sorted(good + ((extra, ()),))), ())),
                             told_check(RING, ALL2, (0,), ("normal", tuple(sorted(good + ((extra, ()),))), ())))
        self.assertEqual(check_normal(RING, ALL2, (0,), ("normal", ((((), False), ()),) + good, ())), "normal")
        self.assertEqual(check_normal(RING, ALL2, (0,), ("normal", good, ((((), True), 7, None),))), "normal")
        self.assertEqual(outcome(check_normal, RING, ALL2, (0,), ("normal", ((((), True), ()),) + good, ())), ("BadPaper", "normal"))
        for bad in (good[1:], good[:2], good[::-1], good + good[-1:], ((((one,), True), ()),) + good[1:],
                    ((((one,), 0), ()),) + good[1:], ((((one,), False), (0,)),) + good[1:],
                    ((((one,), False), (1,)),) + good[1:], list(good), None, good + ((((((3,), 0),), False), ()),)):
            self.assertEqual(outcome(check_normal, RING, ALL2, (0,), ("normal", bad, ())), ("BadPaper", "normal"), bad)
        for bad in (None, [], ((((), True), 7, 1),), ((((), True), -1, None),), ((((), True), True, None),), ((((), False), 0, None),),
                    ((((one,), True), 10 ** 99, None), (((one,), True), 10 ** 99, None)), ((((one,), False), 0, None),)):
            self.assertEqual(outcome(check_normal, RING, ALL2, (0,), ("normal", good, bad)), ("BadPaper", "normal"), bad)
        self.assertEqual(check_normal(RING, ALL2, (0,), ("normal", good, ((((one,), True), 10 ** 99, None),))), "normal")

    def test_papers_that_are_otherwise(self):
        chance = chance_of(106)
        many = {}
        for works, wish, sight in cases(107, 70, 5):
            hold_papers(self, check_normal, told_check, (works, wish, sight), normal_paper(works, wish, sight), chance, 150, many)
        self.assertGreater(many["normal"], 50)

    def test_papers_of_others(self):
        chance = chance_of(108)
        many = 0
        for works, wish, sight in cases(109, 100, 8):
            paper = normal_paper(works, wish, sight)
            other = works[:2] + (some_lot(chance, works[0], 0.4),) + works[3:]
            near = (wish[0], tuple(sorted({0} | {state for state in range(len(wish[0])) if chance.random() < 0.7})))
            for args in ((other, wish, sight), (works, near, sight), (works, wish, some_lot(chance, works[0]))):
                if len(told_standings(*args[:2])) <= 12:
                    due = told_check(*args, paper)
                    many += due[0] == "ok"
                    self.assertEqual(outcome(check_normal, *args, paper), due)
        self.assertGreater(many, 50)


if __name__ == "__main__":
    unittest.main()
