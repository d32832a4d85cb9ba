"""[46], [47] Whether some post brings WORKS to a GOAL: worksward/aims.py, worksward/aimpapers.py."""

import itertools
import unittest

from common import (CUBE, EIGHT, NINE, RING, SHARED, STILL, TRAP, all_sights, chance_of, hold_papers, no_papers, outcome,
                    same_kind, some_lot, some_works, told_ascending, told_do, told_goal, told_int, told_is_place,
                    told_judged, told_lot, told_places, told_row, told_start, told_tuple)
from worksward.aimpapers import check_aim
from worksward.aims import aim_paper, can_bring, seen_at_most

SIZES = {"brought": 2, "never": 2}
LOOSE = RING[:2] + ((),) + RING[3:]
# 0 or 1 leads to the one or the other side; from there 2 or 3 leads to the GOAL, the other one back.
SIDES = (4, (((0, 1, 2, 3), (((0, 1), (1, 2)), ((2, 3), (3, 0)), ((2, 0), (3, 3)), ())),), (0, 1), ((3,),))
# The same, but from the wrong deed there is no way back.
TRAPS = (4, (((0, 1, 2, 3), (((0, 1), (1, 2)), ((2, 3), (3, 0)), ((3, 3),), ())),), (0, 1), ((3,),))


def told_orders(works):
    can = [deed for deed in range(works[0]) if deed not in works[2]]
    return sorted(order for many in range(len(can) + 1) for order in itertools.combinations(can, many))


def told_width(works, sight, lot, order):
    width = set(lot)
    while True:
        more = {told_do(works, place, deed) for place in width for deed in range(works[0])
                if deed not in sight and deed not in order} - {None}
        more = {place for place in more if not told_goal(works, place)}
        if more <= width:
            return width
        width |= more


def told_still(works, order, place):
    return all(told_do(works, place, deed) is None for deed in range(works[0]) if deed not in order)


def told_on_ring(works, sight, order, place):
    """Whether a place leads to itself again by deeds that are neither seen nor forbidden."""
    behind = {told_do(works, place, deed) for deed in range(works[0]) if deed not in sight and deed not in order} - {None}
    behind = {other for other in behind if not told_goal(works, other)}
    return place in told_width(works, sight, behind, order)


def told_behind(works, sight, lot, order):
    """The LOTS, perhaps empty, behind the seen deeds that can be done."""
    found = {}
    for place in told_width(works, sight, lot, order):
        for deed in sight:
            after = told_do(works, place, deed)
            if deed not in order and after is not None:
                found.setdefault(deed, set())
                if not told_goal(works, after):
                    found[deed].add(after)
    return {deed: frozenset(lot) for deed, lot in found.items()}


def told_fails_at_once(works, sight, lot, order):
    return any(told_still(works, order, place) or told_on_ring(works, sight, order, place)
               for place in told_width(works, sight, lot, order))


def told_most(works, sight):
    """The least number of seen deeds, or None: by all LOTS and ORDERS, with one seen deed more in each round."""
    if told_goal(works, told_start(works)):
        return 0
    ways = {}
    waiting = [frozenset([told_start(works)])]
    while waiting:
        lot = waiting.pop()
        if lot and lot not in ways:
            ways[lot] = [told_behind(works, sight, lot, order) for order in told_orders(works)
                         if not told_fails_at_once(works, sight, lot, order)]
            waiting += [after for way in ways[lot] for after in way.values()]
    within = {lot for lot in ways if {} in ways[lot]}
    for number in range(1000):
        if frozenset([told_start(works)]) in within:
            return number
        more = {lot for lot in ways if any(all(not after or after in within for after in way.values()) for way in ways[lot])}
        if number and more == within:
            return None
        within |= more


def told_check(works, sight, paper):
    def holds():
        if paper[0] == "brought":
            return told_brought(works, sight, paper[1])
        return told_never(works, sight, paper[1])
    return told_judged(SIZES, paper, holds)


def told_is_lot(works, thing):
    return (type(thing) is tuple and thing != () and all(told_is_place(works, place) for place in thing)
            and told_ascending(thing) and not any(told_goal(works, place) for place in thing))


def told_brought(works, sight, table):
    if type(table) is not tuple or not all(told_tuple(row, 3, 3) and told_is_lot(works, row[0]) for row in table):
        return False
    if not told_ascending([row[0] for row in table]):
        return False
    ranks = {row[0]: row[1] for row in table}
    if not all(type(rank) is int and rank >= 0 for rank in ranks.values()):
        return False
    for lot, rank, order in table:
        if not told_lot(order, works[0]) or set(order) & set(works[2]):
            return False
        if told_fails_at_once(works, sight, lot, order):
            return False
        for after in told_behind(works, sight, lot, order).values():
            if after and not ranks.get(tuple(sorted(after)), rank) < rank:
                return False
    return told_goal(works, told_start(works)) or (told_start(works),) in ranks


def told_never(works, sight, table):
    if type(table) is not tuple or not all(told_tuple(row, 2, 2) and told_is_lot(works, row[0]) for row in table):
        return False
    if not told_ascending([row[0] for row in table]) or (told_start(works),) not in [row[0] for row in table]:
        return False
    lots = [row[0] for row in table]
    orders = told_orders(works)
    for lot, fails in table:
        if not told_tuple(fails, len(orders), len(orders)):
            return False
        if not all(told_fails(works, sight, lot, order, fail, lots) for order, fail in zip(orders, fails)):
            return False
    return True


def told_fails(works, sight, lot, order, fail, lots):
    if type(fail) is not tuple or not fail or type(fail[0]) is not str:
        return False
    width = told_width(works, sight, lot, order)
    if fail[0] == "seen" and len(fail) == 2:
        return (told_int(fail[1], 0, works[0] - 1) and fail[1] in sight and fail[1] not in order
                and tuple(sorted(told_behind(works, sight, lot, order).get(fail[1], ()))) in lots)
    if fail[0] == "still" and len(fail) == 2:
        return told_is_place(works, fail[1]) and fail[1] in width and told_still(works, order, fail[1])
    if fail[0] == "ring" and len(fail) == 3:
        if not told_is_place(works, fail[1]) or fail[1] not in width or not told_row(fail[2], works[0], 1):
            return False
        place = fail[1]
        for deed in fail[2]:
            place = told_do(works, place, deed)
            if deed in sight or deed in order or place not in width:
                return False
        return place == fail[1]
    return False


def told_leads(works, sight, table):
    """Whether by the ORDERS of a TABLE each RUN that passes comes to a GOAL: by all places with the LOT that is known."""
    orders = {row[0]: row[2] for row in table}
    steps = {}
    waiting = [(told_start(works), (told_start(works),))]
    if told_goal(works, told_start(works)):
        return True
    while waiting:
        place, lot = node = waiting.pop()
        if node in steps:
            continue
        steps[node] = []
        passing = 0
        for deed in range(works[0]):
            after = told_do(works, place, deed)
            if after is None or deed in orders[lot]:
                continue
            passing += 1
            if not told_goal(works, after):
                behind = tuple(sorted(told_behind(works, sight, lot, orders[lot])[deed])) if deed in sight else lot
                steps[node].append((after, behind))
        if not passing:
            return False
        waiting += steps[node]
    # What is left when all is taken away from which nothing is left goes on for ever.
    left = set(steps)
    while True:
        less = {node for node in left if any(after in left for after in steps[node])}
        if less == left:
            return not left
        left = less


def cases(seed, many):
    chance = chance_of(seed)
    found = 0
    while found < many:
        works = some_works(chance, chance.randint(1, 4), chance.randint(1, 2), part=0.6)
        works = works[:2] + (some_lot(chance, works[0], 0.3),) + (tuple(some_lot(chance, len(part[1]), 0.5) for part in works[1]),)
        if told_goal(works, told_start(works)) and chance.random() < 0.9:
            continue
        sight = some_lot(chance, works[0], 0.6)
        if len(told_places(works)) <= 8 and (told_most(works, sight) or chance.random() < 0.2):
            found += 1
            yield works, sight


class Aims(unittest.TestCase):
    def test_sides(self):
        # Who sees 0 and 1 forbids the wrong deed; so does who sees none of them, but 2 or 3 leading back.
        self.assertIs(can_bring(SIDES, (0, 1)), True)
        self.assertEqual(seen_at_most(SIDES, (0, 1)), 1)
        self.assertIs(can_bring(TRAPS, (0, 1)), True)
        self.assertIs(can_bring(TRAPS, (0,)), True)
        self.assertIs(can_bring(SIDES, ()), False)
        self.assertIs(can_bring(TRAPS, ()), False)
        # From the one side alone there is a way back; the deed that leads to it is not seen, and comes no more.
        self.assertEqual(seen_at_most(TRAPS, (0, 1)), 1)
        self.assertEqual(seen_at_most(TRAPS, (0, 1, 2, 3)), 2)
        self.assertIsNone(seen_at_most(SIDES, ()))

    def test_the_first_place_is_a_goal(self):
        for sight in all_sights(4):
            works = SIDES[:3] + ((((0,),)),)
            self.assertEqual(seen_at_most(works, sight), 0)
            self.assertIs(can_bring(works, sight), True)
            self.assertEqual(aim_paper(works, sight)[0], "brought")
            self.assertEqual(check_aim(works, sight, ("brought", ())), "brought")

    def test_nothing_can_be_done(self):
        self.assertIs(can_bring(STILL, ()), False)
        self.assertEqual(aim_paper(STILL, ()), ("never", ((((0,),), (("still", (0,)), ("still", (0,)))),)))
        self.assertIs(can_bring(STILL[:3] + (((0,),),), ()), True)

    def test_rings(self):
        works = (2, (((0, 1), (((0, 0), (1, 1)), ())),), (0,), ((1,),))
        self.assertIs(can_bring(works, ()), False)
        paper = aim_paper(works, ())
        self.assertEqual(paper, ("never", ((((0,),), (("ring", (0,), (0,)), ("ring", (0,), (0,)))),)))
        # To see the ring does not help, for it goes on for ever.
        self.assertIs(can_bring(works, (0,)), False)
        self.assertEqual(aim_paper(works, (0,)), ("never", ((((0,),), (("seen", 0), ("seen", 0))),)))
        # Forbidden, it does.
        self.assertEqual(seen_at_most(works[:2] + ((1,),) + works[3:], (0,)), 0)
        self.assertEqual(seen_at_most(works[:2] + ((1,),) + works[3:], (1,)), 1)

    def test_by_chance(self):
        seen = {}
        for works, sight in cases(120, 500):
            due = told_most(works, sight)
            self.assertEqual(seen_at_most(works, sight), due)
            self.assertIs(can_bring(works, sight), due is not None)
            paper = aim_paper(works, sight)
            self.assertEqual(paper[0], "never" if due is None else "brought")
            self.assertEqual(check_aim(works, sight, paper), paper[0])
            self.assertEqual(told_check(works, sight, paper), ("ok", paper[0]))
            if due is not None:
                self.assertTrue(told_leads(works, sight, paper[1]))
            seen[due] = seen.get(due, 0) + 1
        self.assertTrue(min(seen.get(due, 0) for due in (None, 0, 1, 2)) > 5, seen)

    def test_papers_name_all_fails(self):
        found = {}
        for works, sight in cases(121, 200):
            paper = aim_paper(works, sight)
            if paper[0] == "never":
                for _, fails in paper[1]:
                    for fail in fails:
                        found[fail[0]] = found.get(fail[0], 0) + 1
        self.assertTrue(min(found.get(word, 0) for word in ("still", "ring", "seen")) > 20, found)


class Bounds(unittest.TestCase):
    CALLS = ((can_bring, ()), (seen_at_most, ()), (aim_paper, ()), (check_aim, (None,)), (check_aim, (("brought", ()),)))

    def test_8_places_and_more(self):
        self.assertEqual(len(told_places(EIGHT)), 8)
        self.assertEqual(len(told_places(NINE)), 9)
        self.assertEqual(seen_at_most(EIGHT, ()), told_most(EIGHT, ()))
        self.assertEqual(seen_at_most(EIGHT, (0, 1)), told_most(EIGHT, (0, 1)))
        paper = aim_paper(EIGHT, (0, 1))
        self.assertEqual(check_aim(EIGHT, (0, 1), paper), paper[0])
        for call, more in self.CALLS:
            self.assertEqual(outcome(call, NINE, (0,), *more), ("TooMany", 8))
            self.assertEqual(outcome(call, CUBE, (0,), *more), ("TooMany", 8))
            self.assertEqual(outcome(call, CUBE, (3,), *more), ("OutOfPlace",))
            self.assertEqual(outcome(call, CUBE, [0], *more), ("OutOfPlace",))

    def test_4_deeds_that_are_not_of_free_and_more(self):
        machine = (((0,), (((0, 1),), ())),)
        for deeds, free in ((4, ()), (5, (0,)), (5, (4,)), (6, (1, 2)), (6, (0, 1, 2, 3, 4, 5))):
            works = (deeds, machine, free, ((1,),))
            self.assertEqual(seen_at_most(works, (0,)), 1)
            paper = aim_paper(works[:3] + (((),),), (0,))
            self.assertEqual(len(paper[1][0][1]), 2 ** (deeds - len(free)))
            self.assertEqual(check_aim(works[:3] + (((),),), (0,), paper), "never")
        for deeds, free in ((5, ()), (6, (0,)), (6, ()), (6, (5,))):
            for call, more in self.CALLS:
                # The first place may be a GOAL, too.
                self.assertEqual(outcome(call, (deeds, machine, free, ((1,),)), (0,), *more), ("TooMany", 4))
                self.assertEqual(outcome(call, (deeds, machine, free, ((0,),)), (0,), *more), ("TooMany", 4))
                self.assertEqual(outcome(call, (deeds, machine, free, ((0,),)), (6,), *more), ("OutOfPlace",))

    def test_places_are_counted_first(self):
        works = (6,) + NINE[1:]
        for call, more in self.CALLS:
            self.assertEqual(outcome(call, works, (0,), *more), ("TooMany", 8))


class Papers(unittest.TestCase):
    def test_no_papers(self):
        for thing in no_papers({"brought": 1, "never": 1}):
            self.assertEqual(outcome(check_aim, SIDES, (0,), thing), ("BadPaper", "form"), thing)

    def test_deeds_that_no_machine_has(self):
        works = (3, (((0,), (((0, 1),), ())),), (), ((1,),))
        for order in ((), (1,), (1, 2), (2,)):
            self.assertEqual(check_aim(works, (), ("brought", ((((0,),), 0, order),))), "brought")
        for order in ((0,), (2, 1), (3,), (1, 1), [1], None, (True,), (1.0,)):
            self.assertEqual(outcome(check_aim, works, (), ("brought", ((((0,),), 0, order),))), ("BadPaper", "brought"))
        self.assertEqual(outcome(check_aim, works[:2] + ((1,),) + works[3:], (), ("brought", ((((0,),), 0, (1,)),))),
                         ("BadPaper", "brought"))

    def test_lots_that_need_not_come(self):
        paper = aim_paper(SIDES, (0, 1))
        for extra in ((((1,), (2,)), 5, (2,)), (((0,), (1,)), 9, (3,)), (((2,),), 0, (2,)), (((0,), (3,)), 9, ())):
            table = tuple(sorted([row for row in paper[1] if row[0] != extra[0]] + [extra]))
            self.assertEqual(outcome(check_aim, SIDES, (0, 1), ("brought", table)),
                             told_check(SIDES, (0, 1), ("brought", table)), extra)
        works = (1, (((0,), ((), ((0, 1),), ())),), (), ((2,),))
        fails = (("still", (0,)), ("still", (0,)))
        more = (("ring", (1,), (0,)), ("still", (1,)))
        self.assertEqual(check_aim(works, (), ("never", ((((0,),), fails), (((1,),), more)))), "never")
        self.assertEqual(check_aim(works, (), ("never", ((((0,),), fails), (((0,), (1,)), fails), (((1,),), more)))), "never")
        self.assertEqual(outcome(check_aim, works, (), ("never", ((((1,),), more),))), ("BadPaper", "never"))

    def test_ranks(self):
        works = (1, (((0,), (((0, 1),), ((0, 2),), ())),), (), ((2,),))
        for one, two, is_so in ((1, 0, True), (2, 1, True), (10 ** 30, 7, True), (0, 0, False), (1, 1, False), (0, 1, False),
                                (1, -1, False), (1, False, False), (True, 0, False), (1.0, 0, False), (None, 0, False)):
            paper = ("brought", ((((0,),), one, ()), (((1,),), two, ())))
            self.assertEqual(outcome(check_aim, works, (0,), paper), ("ok", "brought") if is_so else ("BadPaper", "brought"))
        self.assertEqual(check_aim(works, (), ("brought", ((((0,),), 0, ()),))), "brought")

    def test_long_rings(self):
        works = (2, (((0, 1), (((0, 0), (1, 1)), ())),), (0,), ((1,),))
        for ring, is_so in (((0,) * 3000, True), ((), False), ((0, 1), False), ((1,), False), ((False,), False), ([0], False)):
            paper = ("never", ((((0,),), (("ring", (0,), ring), ("ring", (0,), (0,)))),))
            self.assertEqual(outcome(check_aim, works, (), paper), ("ok", "never") if is_so else ("BadPaper", "never"))

    def test_papers_that_are_otherwise(self):
        chance = chance_of(122)
        many = {}
        for works, sight in cases(123, 100):
            paper = aim_paper(works, sight)
            hold_papers(self, check_aim, told_check, (works, sight), paper, chance, 120, many)
        self.assertTrue(len(many) == 2 and min(many.values()) > 20, many)

    def test_papers_of_others(self):
        chance = chance_of(124)
        many = 0
        for works, sight in cases(125, 150):
            paper = aim_paper(works, sight)
            other = works[:2] + (some_lot(chance, works[0], 0.4),) + works[3:]
            near = works[:3] + (tuple(some_lot(chance, len(part[1]), 0.4) for part in works[1]),)
            for args in ((other, sight), (near, sight), (works, some_lot(chance, works[0]))):
                due = told_check(*args, paper)
                many += due[0] == "ok"
                self.assertEqual(outcome(check_aim, *args, paper), due)
        self.assertGreater(many, 50)


if __name__ == "__main__":
    unittest.main()
