"""[60] to [62] FAULTS: worksward/faults.py, worksward/foresight.py, worksward/faultpapers.py."""

import itertools
import unittest

from common import (CUBE, EIGHT, MANY, NINE, Odd, RING, SHARED, STILL, TWELVE, all_sights, chance_of, hold_papers, junk, no_papers,
                    outcome, some_lot, some_works, told_ascending, told_do, told_int, told_is_place, told_judged, told_look,
                    told_lot, told_place, told_places, told_row, told_runs, told_start, told_tuple)
from worksward.faultpapers import check_foreseen, check_told
from worksward.faults import is_faulty, least_told, told_paper
from worksward.foresight import are_foreseen, doomed_places, foreseen_paper

# Deed 0 goes round; 1 is a fault that leads to where 2 comes, which leads back.
SLIP = (3, (((0, 1, 2), (((0, 0), (1, 1)), ((0, 2),), ((2, 0),))),), (), ((),))
# Behind 0 nothing but the fault 1 can be done.
BOUND = (3, (((0, 1, 2), (((0, 1), (2, 0)), ((1, 2),), ((2, 2),))),), (), ((),))
THIRTEEN = (2, (((0,), (((0, 1),), ((0, 2),), ((0, 3),), ((0, 0),))), ((1,), (((1, 1),), ((1, 2),), ((1, 3),), ((1, 0),)))), (), ((), ()))


def told_faulty(faults, run):
    return any(deed in faults for deed in run)


def told_first(faults, run):
    """How many deeds are behind the first fault, or None."""
    for k, deed in enumerate(run):
        if deed in faults:
            return len(run) - k - 1
    return None


def told_least(works, faults, sight):
    """The LEAST N, or None: by couples of RUNS that look alike, with how many deeds are behind the first fault, or -1.

    Counted as far as there are pairs of places, and one more.
    """
    most = len(told_places(works)) ** 2 + 1
    known = {(-1, told_start(works), told_start(works))}
    waiting = list(known)
    while waiting:
        many, x, y = waiting.pop()
        behind = []
        for deed in range(works[0]):
            one, two = told_do(works, x, deed), told_do(works, y, deed)
            more = many + 1 if many >= 0 else (0 if deed in faults else -1)
            if deed in sight:
                if one is not None and two is not None and deed not in faults:
                    behind.append((more, one, two))
            else:
                if one is not None:
                    behind.append((more, one, y))
                if two is not None and deed not in faults:
                    behind.append((many, x, two))
        for node in behind:
            if node[0] > most:
                return None
            if node not in known:
                known.add(node)
                waiting.append(node)
    return max(many for many, _, _ in known) + 1


def told_doomed(works, faults):
    """The places that come from which no row without faults goes on for ever, or comes to a still place."""
    steps = {place: {deed: told_do(works, place, deed) for deed in range(works[0])} for place in told_places(works)}
    steps = {place: {deed: after for deed, after in ways.items() if after is not None} for place, ways in steps.items()}
    safe = {place for place in steps}
    while True:
        # Taken away is each place with some deed from which all deeds are faults or lead to what was taken away.
        left = {place for place in safe if not steps[place] or any(deed not in faults and after in safe
                                                                    for deed, after in steps[place].items())}
        if left == safe:
            return tuple(sorted(set(steps) - safe))
        safe = left


def told_couples(works, faults, sight):
    """The pairs of places behind RUNS that are not faulty and look alike."""
    known = {(told_start(works), told_start(works))}
    while True:
        more = set()
        for x, y in known:
            for deed in range(works[0]):
                if deed not in faults:
                    one, two = told_do(works, x, deed), told_do(works, y, deed)
                    more |= {(one, two)} if deed in sight else {(one, y), (x, two)}
        more = {pair for pair in more if None not in pair}
        if more <= known:
            return known
        known |= more


def told_foreseen(works, faults, sight):
    doomed = told_doomed(works, faults)
    return not any(any(told_do(works, x, deed) is not None for deed in faults) and y not in doomed
                   for x, y in told_couples(works, faults, sight))


def told_lead(works, place, row):
    """The place behind any value as deeds from a place, or None."""
    if not told_row(row, works[0]):
        return None
    for deed in row:
        place = told_do(works, place, deed)
        if place is None:
            return None
    return place


def told_check_told(works, faults, sight, paper):
    start = told_start(works)

    def are_alike(one, other):
        if told_lead(works, start, one) is None or told_lead(works, start, other) is None:
            return False
        return not told_faulty(faults, other) and told_look(sight, one) == told_look(sight, other)

    def is_told(most, table, couple):
        if type(most) is not int or most < 0 or type(table) is not tuple:
            return False
        for row in table:
            if not told_tuple(row, 4, 4) or not told_int(row[0], 0, 1) or type(row[3]) is not int or row[3] < 0:
                return False
            if not told_is_place(works, row[1]) or not told_is_place(works, row[2]):
                return False
        if not told_ascending([row[:3] for row in table]):
            return False
        heights = {row[:3]: row[3] for row in table}
        for mark, x, y, height in table:
            for deed in range(works[0]):
                one, two = told_do(works, x, deed), told_do(works, y, deed)
                after = 1 if deed in faults else mark
                due = []
                if deed not in sight and one is not None:
                    due.append((after, one, y))
                if deed in sight and deed not in faults and one is not None and two is not None:
                    due.append((after, one, two))
                for node in due:
                    if node not in heights or (mark == 1 and heights[node] > height - 1):
                        return False
                    if mark == 0 and after == 1 and not heights[node] < most:
                        return False
                if deed not in sight and deed not in faults and two is not None:
                    if (mark, x, two) not in heights or heights[(mark, x, two)] > height:
                        return False
        if (0, start, start) not in heights:
            return False
        if most == 0:
            return type(couple) is tuple and couple == ()
        return told_tuple(couple, 2, 2) and are_alike(*couple) and told_first(faults, couple[0]) == most - 1

    def is_never(one, ring, other, turn):
        if not are_alike(one, other) or not told_faulty(faults, one):
            return False
        x, y = told_lead(works, start, one), told_lead(works, start, other)
        if told_lead(works, x, ring) != x or told_lead(works, y, turn) != y or ring == ():
            return False
        return not told_faulty(faults, turn) and told_look(sight, ring) == told_look(sight, turn)

    return told_judged({"told": 4, "never": 5}, paper, lambda: is_told(*paper[1:]) if paper[0] == "told" else is_never(*paper[1:]))


def told_check_foreseen(works, faults, sight, paper):
    start = told_start(works)

    def is_foreseen(rows, table):
        if type(rows) is not tuple or type(table) is not tuple:
            return False
        for row in rows:
            if not told_tuple(row, 2, 2) or not told_is_place(works, row[0]) or type(row[1]) is not int or row[1] < 0:
                return False
        for row in table:
            if not told_tuple(row, 2, 2) or not told_is_place(works, row[0]) or not told_is_place(works, row[1]):
                return False
        if not told_ascending([row[0] for row in rows]) or not told_ascending(table) or (start, start) not in table:
            return False
        ranks = dict(rows)
        for place, rank in rows:
            ways = {deed: told_do(works, place, deed) for deed in range(works[0]) if told_do(works, place, deed) is not None}
            if not ways or not all(deed in faults or ranks.get(after, rank) < rank for deed, after in ways.items()):
                return False
        for x, y in table:
            for deed in range(works[0]):
                one, two = told_do(works, x, deed), told_do(works, y, deed)
                if deed in faults:
                    if one is not None and y not in ranks:
                        return False
                elif deed in sight:
                    if one is not None and two is not None and (one, two) not in table:
                        return False
                elif one is not None and (one, y) not in table or two is not None and (x, two) not in table:
                    return False
        return True

    def is_late(one, other, way, ring):
        x, y = told_lead(works, start, one), told_lead(works, start, other)
        if x is None or y is None or told_look(sight, one) != told_look(sight, other):
            return False
        if all(told_do(works, x, deed) is None for deed in faults):
            return False
        place = told_lead(works, y, way)
        if place is None or told_lead(works, place, ring) != place or told_faulty(faults, one + other + way + ring):
            return False
        return ring != () or all(told_do(works, place, deed) is None for deed in range(works[0]))

    return told_judged({"foreseen": 3, "late": 5}, paper,
                       lambda: is_foreseen(*paper[1:]) if paper[0] == "foreseen" else is_late(*paper[1:]))


def cases(seed, many, most=12):
    chance = chance_of(seed)
    found = 0
    while found < many:
        works = some_works(chance, chance.randint(2, 4), chance.randint(1, 2), part=0.7)
        faults = some_lot(chance, works[0], 0.3) or (chance.randrange(works[0]),)
        sight = some_lot(chance, works[0], 0.6)
        if len(told_places(works)) > most:
            continue
        # Such in which there is some doubt are the more of them.
        if chance.random() < 0.15 or told_least(works, faults, sight):
            found += 1
            yield works, faults, sight


class Faults(unittest.TestCase):
    def test_faulty_runs(self):
        for run, due in (((), False), ((0,), False), ((0, 1), True), ((1, 0, 2, 0), True)):
            self.assertIs(is_faulty(SLIP, (1,), run), due)
        self.assertIs(is_faulty(SLIP, (0, 1, 2), (0,)), True)
        self.assertIs(is_faulty(RING, (1,), (0, 0, 0, 0) * 100), False)
        self.assertEqual(outcome(is_faulty, RING, (1,), (0,) * 401), ("OutOfPlace",))
        self.assertIs(is_faulty(CUBE, (2,), (0, 1, 2)), True)

    def test_what_is_none(self):
        for faults in junk() + [(), (1, 0), (0, 0), (3,), [0], (True,), (0.0,), None, 0, (-1,)]:
            for call, more in ((is_faulty, ((),)), (least_told, ((),)), (told_paper, ((),)), (doomed_places, ()), (are_foreseen, ((),)),
                               (foreseen_paper, ((),)), (check_told, ((), None)), (check_foreseen, ((), None))):
                if not (told_lot(faults, 3) and faults):
                    self.assertEqual(outcome(call, SLIP, faults, *more), ("OutOfPlace",), faults)

    def test_one_and_all(self):
        for sight in all_sights(3):
            for faults in all_sights(3)[1:]:
                self.assertEqual(least_told(SLIP, faults, sight), told_least(SLIP, faults, sight))
                self.assertIs(are_foreseen(SLIP, faults, sight), told_foreseen(SLIP, faults, sight))


class Told(unittest.TestCase):
    def test_slip(self):
        # The fault itself is seen; the 2 behind it is seen, the second deed behind it; nothing is seen.
        self.assertEqual(least_told(SLIP, (1,), (1,)), 0)
        self.assertEqual(least_told(SLIP, (1,), (2,)), 2)
        self.assertEqual(least_told(SLIP, (1,), (0, 2)), 2)
        self.assertIsNone(least_told(SLIP, (1,), ()))
        self.assertIsNone(least_told(SLIP, (1,), (0,)))

    def test_by_chance(self):
        seen = {}
        for works, faults, sight in cases(200, 400):
            due = told_least(works, faults, sight)
            self.assertEqual(least_told(works, faults, sight), due)
            paper = told_paper(works, faults, sight)
            self.assertEqual(paper[:2] if due is not None else paper[0], ("told", due) if due is not None else "never")
            self.assertEqual(check_told(works, faults, sight, paper), paper[0])
            self.assertEqual(told_check_told(works, faults, sight, paper), ("ok", paper[0]))
            seen[due] = seen.get(due, 0) + 1
        self.assertTrue(min(seen.get(due, 0) for due in (0, 1, 2, 3, None)) > 0, seen)

    def test_hard_ones(self):
        # In these it matters that the second RUN does seen deeds with the first one alone, and which couple is the last.
        for works, faults, sight, due in (
                ((4, (((0, 2, 3), (((2, 1), (3, 1)), ((0, 2), (3, 3)), ((0, 3), (3, 3)), ())),), (1,), ((1,),)), (1, 3), (0, 1, 2), 2),
                ((4, (((0, 1, 2, 3), (((0, 2), (1, 1), (3, 1)), ((2, 0),), ((0, 2), (2, 0), (3, 2)))),), (0, 1), ((0,),)), (1,), (0, 2, 3), 1),
                ((4, (((0, 1, 2, 3), (((1, 2), (2, 2)), ((2, 1),), ((0, 2), (1, 1), (3, 0)))),
                      ((0, 1, 3), (((0, 0), (1, 0)),))), (3,), ((0, 1, 2), ())), (1,), (0, 2, 3), 3),
                ((4, (((0, 3), (((0, 1), (3, 2)), ((3, 0),), ())),), (), ((0, 1),)), (2, 3), (0, 1), 2),
                ((3, (((0, 1, 2), (((0, 1), (1, 0), (2, 3)), (), ((0, 3), (1, 0), (2, 1)), ((0, 1), (1, 2)))),
                      ((1, 2), (((1, 1), (2, 0)), ((2, 1),)))), (0, 1, 2), ((0,), (0, 1))), (0, 1), (), 3),
                ((4, (((1, 2), (((1, 2), (2, 3)), ((1, 0), (2, 0)), ((2, 2),), ((1, 0), (2, 2)))),
                      ((2,), (((2, 2),), ((2, 1),), ()))), (3,), ((0,), (0,))), (1, 2, 3), (0, 3), 3)):
            self.assertEqual(told_least(works, faults, sight), due)
            self.assertEqual(least_told(works, faults, sight), due)
            paper = told_paper(works, faults, sight)
            self.assertEqual(check_told(works, faults, sight, paper), "told")
            self.assertEqual(told_check_told(works, faults, sight, paper), ("ok", "told"))

    def test_by_the_words(self):
        # Of short RUNS: those with as many deeds behind the first fault look alike with faulty ones alone.
        for works, faults, sight in cases(201, 60, 6):
            due = least_told(works, faults, sight)
            runs = told_runs(works, 5)
            clear = {told_look(sight, run) for run in runs if not told_faulty(faults, run)}
            behind = [told_first(faults, run) for run in runs if told_faulty(faults, run) and told_look(sight, run) in clear]
            if due is not None:
                self.assertTrue(all(many < due for many in behind))
                couple = told_paper(works, faults, sight)[3]
                if due:
                    self.assertEqual(told_first(faults, couple[0]), due - 1)

    def test_greater_sights(self):
        for works, faults, sight in cases(202, 80):
            for greater in all_sights(works[0]):
                if set(sight) <= set(greater) and least_told(works, faults, sight) is not None:
                    self.assertLessEqual(least_told(works, faults, greater), least_told(works, faults, sight))
            self.assertEqual(least_told(works, faults, tuple(sorted({*sight, *faults}))), 0)


class Foresight(unittest.TestCase):
    def test_bound(self):
        self.assertEqual(doomed_places(BOUND, (1,)), ((1,),))
        self.assertIs(are_foreseen(BOUND, (1,), (0,)), True)
        self.assertIs(are_foreseen(BOUND, (1,), (2,)), False)
        self.assertEqual(foreseen_paper(BOUND, (1,), (2,))[0], "late")
        self.assertEqual(foreseen_paper(BOUND, (1,), (0,)), ("foreseen", (((1,), 0),), (((0,), (0,)), ((1,), (1,)))))

    def test_still_places_are_not_doomed(self):
        self.assertEqual(doomed_places(STILL, (0,)), ())
        works = (2, (((0, 1), (((0, 1), (1, 1)), ())),), (), ((),))
        self.assertEqual(doomed_places(works, (0,)), ())
        self.assertEqual(doomed_places(works, (0, 1)), ((0,),))
        self.assertIs(are_foreseen(works, (0, 1), ()), True)
        self.assertIs(are_foreseen(works, (0,), (0, 1)), False)

    def test_places_are_not_counted_for_doomed_ones(self):
        self.assertEqual(doomed_places(CUBE, (0,)), ())
        self.assertEqual(len(doomed_places(CUBE, (0, 1, 2))), 24)

    def test_by_chance(self):
        seen = {}
        for works, faults, sight in cases(203, 400):
            doomed = told_doomed(works, faults)
            self.assertEqual(doomed_places(works, faults), doomed)
            due = told_foreseen(works, faults, sight)
            self.assertIs(are_foreseen(works, faults, sight), due)
            paper = foreseen_paper(works, faults, sight)
            self.assertEqual(paper[0], "foreseen" if due else "late")
            self.assertEqual(check_foreseen(works, faults, sight, paper), paper[0])
            self.assertEqual(told_check_foreseen(works, faults, sight, paper), ("ok", paper[0]))
            key = (due, len(doomed) > 0, paper[4] == () if not due else None)
            seen[key] = seen.get(key, 0) + 1
        self.assertTrue(len(seen) >= 5 and min(seen.values()) > 2, seen)

    def test_greater_sights(self):
        for works, faults, sight in cases(204, 60):
            for greater in all_sights(works[0]):
                if set(sight) <= set(greater) and are_foreseen(works, faults, sight):
                    self.assertIs(are_foreseen(works, faults, greater), True)


class Bounds(unittest.TestCase):
    def test_12_places_and_more(self):
        self.assertEqual(len(told_places(TWELVE)), 12)
        self.assertEqual(len(told_places(THIRTEEN)), 16)
        self.assertIsNone(least_told(TWELVE, (0,), ()))
        self.assertEqual(told_least(TWELVE, (0,), (0,)), least_told(TWELVE, (0,), (0,)))
        for sight in all_sights(2):
            paper = told_paper(TWELVE, (1,), sight)
            self.assertEqual(told_check_told(TWELVE, (1,), sight, paper), ("ok", paper[0]))
            self.assertEqual(check_told(TWELVE, (1,), sight, paper), paper[0])
            paper = foreseen_paper(TWELVE, (1,), sight)
            self.assertEqual(check_foreseen(TWELVE, (1,), sight, paper), paper[0])
        for works in (THIRTEEN, CUBE):
            for call, more in ((least_told, ()), (told_paper, ()), (are_foreseen, ()), (foreseen_paper, ()), (check_told, (None,)),
                               (check_foreseen, (None,)), (check_told, (("told", 0, (), ()),)), (check_foreseen, (("foreseen", (), ()),))):
                self.assertEqual(outcome(call, works, (0,), (1,), *more), ("TooMany", 12))
                self.assertEqual(outcome(call, works, (0,), (9,), *more), ("OutOfPlace",))
                self.assertEqual(outcome(call, works, (), (9,), *more), ("OutOfPlace",))
                self.assertEqual(outcome(call, works, (), None, *more), ("OutOfPlace",))

    def test_13_places(self):
        chance = chance_of(205)
        found = {12: 0, 13: 0}
        while min(found.values()) < 4:
            works = some_works(chance, 3, 2, part=0.6)
            many = len(told_places(works))
            if many not in found:
                continue
            found[many] += 1
            for call, told in ((least_told, told_least), (are_foreseen, told_foreseen)):
                due = ("ok", told(works, (0,), (1,))) if many == 12 else ("TooMany", 12)
                self.assertEqual(outcome(call, works, (0,), (1,)), due)
            for check in (check_told, check_foreseen):
                self.assertEqual(outcome(check, works, (0,), (1,), None), ("BadPaper", "form") if many == 12 else ("TooMany", 12))


class Papers(unittest.TestCase):
    def test_no_papers(self):
        for thing in no_papers({"told": 3, "never": 4}):
            self.assertEqual(outcome(check_told, SLIP, (1,), (2,), thing), ("BadPaper", "form"), thing)
        for thing in no_papers({"foreseen": 2, "late": 4}):
            self.assertEqual(outcome(check_foreseen, SLIP, (1,), (2,), thing), ("BadPaper", "form"), thing)

    def test_heights(self):
        paper = told_paper(SLIP, (1,), (2,))
        self.assertEqual(paper, ("told", 2, ((0, (0,), (0,), 0), (1, (1,), (0,), 1), (1, (2,), (0,), 0)), ((1, 0), ())))
        for heights, most, is_so in (((0, 1, 0), 2, True), ((9, 1, 0), 2, True), ((0, 2, 0), 2, False), ((0, 1, 1), 2, False),
                                     ((0, 1, 0), 3, False), ((0, 1, 0), 1, False), ((0, 1, -1), 2, False), ((0, 1, False), 2, False),
                                     ((0, 1.0, 0), 2, False), ((None, 1, 0), 2, False), ((0, 1, 0), True, False), ((0, 1, 0), 2.0, False),
                                     ((10 ** 70, 1, 0), 2, True), ((0, 2, 1), 3, False)):
            table = tuple(row[:3] + (height,) for row, height in zip(paper[2], heights))
            due = ("ok", "told") if is_so else ("BadPaper", "told")
            self.assertEqual(outcome(check_told, SLIP, (1,), (2,), ("told", most, table, paper[3])), due, (heights, most))
            self.assertEqual(told_check_told(SLIP, (1,), (2,), ("told", most, table, paper[3])), due, (heights, most))
        for couple, is_so in ((((1, 0), ()), True), (((1, 0), (0, 0)), True), (((0, 0, 1, 0), ()), True), (((1,), ()), False), ((), False),
                              (((1, 0, 2), (2,)), False), (((1, 0), (1, 0)), False), (((1, 0),), False), ([(1, 0), ()], False),
                              (((1, 0), None), False), ((None, ()), False), (((True, 0), ()), False), (((1, 0), (), ()), False),
                              (((0,), ()), False), (((1, 0), (0,) * 2000), True)):
            due = ("ok", "told") if is_so else ("BadPaper", "told")
            self.assertEqual(outcome(check_told, SLIP, (1,), (2,), paper[:3] + (couple,)), due, couple)

    def test_rows_that_need_not_come(self):
        # At the second place, which does not come, nothing can be done.
        works = (2, (((0, 1), (((0, 0),), ())),), (), ((),))
        first = (0, (0,), (0,), 0)
        for row, is_so in (((0, (1,), (1,), 0), True), ((1, (1,), (1,), 0), True), ((1, (1,), (0,), 7), True), ((0, (0,), (1,), 0), True),
                           ((2, (1,), (1,), 0), False), ((True, (1,), (1,), 0), False), ((1.0, (1,), (1,), 0), False),
                           ((1, (0,), (0,), 0), False), ((0, (0,), (0,), 1), False), ((0, (2,), (0,), 1), False), ((0, (0,), (2,), 1), False),
                           ((1, (1,), (1,), -1), False), ((1, (1,), (1,)), False), ((1, (1,), (1,), 0, 0), False)):
            due = ("ok", "told") if is_so else ("BadPaper", "told")
            self.assertEqual(outcome(check_told, works, (1,), (), ("told", 0, (first, row), ())), due, row)
        self.assertEqual(outcome(check_told, works, (1,), (), ("told", 0, ((-1, (1,), (1,), 0), first), ())), ("BadPaper", "told"))
        self.assertEqual(outcome(check_told, works, (1,), (), ("told", -1, (first,), ())), ("BadPaper", "told"))
        # A still place is not doomed.
        couples = (((0,), (0,)),)
        self.assertEqual(check_foreseen(works, (1,), (), ("foreseen", (), couples)), "foreseen")
        self.assertEqual(outcome(check_foreseen, works, (1,), (), ("foreseen", (((1,), 0),), couples)), ("BadPaper", "foreseen"))

    def test_the_couple_of_0(self):
        paper = told_paper(SLIP, (1,), (1,))
        self.assertEqual(paper, ("told", 0, ((0, (0,), (0,), 0),), ()))
        for couple in (((), ()), ((1,), ()), None, [], 0, False):
            self.assertEqual(outcome(check_told, SLIP, (1,), (1,), paper[:3] + (couple,)), ("BadPaper", "told"))

    def test_never(self):
        for one, ring, other, turn, is_so in (((1, 0, 2), (0,), (), (), True), ((1,), (0, 2, 1), (), (), True), ((1,), (), (), (), False),
                                              ((), (0,), (), (), False), ((1, 0, 2), (0,) * 900, (0,) * 900, (0,), True),
                                              ((1,), (0,), (), (), False), ((1,), (0, 2, 1), (1,), (), False),
                                              ((1,), (0, 2, 1), (), (1, 0, 2), False), ([1], (0, 2, 1), (), (), False),
                                              ((1,), [0, 2, 1], (), (), False), ((1,), (0, 2, 1), [], (), False),
                                              ((1,), (0, 2, 1), (), [], False), ((1,), (0, 2, 1), None, (), False),
                                              ((1,), (0, 2, True), (), (), False), ((1,), None, (), (), False)):
            due = ("ok", "never") if is_so else ("BadPaper", "never")
            self.assertEqual(outcome(check_told, SLIP, (1,), (), ("never", one, ring, other, turn)), due, (one, ring, other, turn))
        # The RING has seen deeds, the TURN has not.
        self.assertEqual(outcome(check_told, SLIP, (1,), (2,), ("never", (1,), (0, 2, 1), (), ())), ("BadPaper", "never"))

    def test_late(self):
        for told, is_so in ((((0,), (), (), (2,)), True), (((0,), (2,) * 900, (2,) * 900, (2, 2)), True), (((), (), (), (2,)), False),
                            (((0,), (0,), (), (2,)), False), (((0,), (), (0,), ()), False), (((0,), (), (), ()), False),
                            (((0,), (), (0, 1), (2,)), False), ((None, (), (), (2,)), False), (((0,), [], (), (2,)), False),
                            (((0,), (), None, (2,)), False), (((0,), (), (), [2]), False), (((False,), (), (), (2,)), False),
                            (((2, 0), (2, 2, 2), (), (2,)), True), (((0, 1), (), (), (2,)), False)):
            due = ("ok", "late") if is_so else ("BadPaper", "late")
            self.assertEqual(outcome(check_foreseen, BOUND, (1,), (), ("late", *told)), due, told)
            self.assertEqual(told_check_foreseen(BOUND, (1,), (), ("late", *told)), due, told)

    def test_places_that_need_not_come(self):
        works = (2, (((0, 1), (((0, 0),), ((1, 1),), ((0, 1),))),), (), ((),))
        for ranks, table, is_so in (((), (((0,), (0,)),), True), ((((1,), 0),), (((0,), (0,)),), True),
                                    ((((1,), 0), ((2,), 1)), (((0,), (0,)), ((1,), (1,)), ((2,), (1,))), True),
                                    ((((1,), 0),), (((0,), (0,)), ((1,), (2,))), False),
                                    ((((1,), 0), ((2,), 1)), (((0,), (0,)), ((1,), (1,))), True),
                                    ((((1,), 0), ((2,), 0)), (((0,), (0,)),), False), ((((0,), 0),), (((0,), (0,)),), False)):
            due = told_check_foreseen(works, (1,), (0,), ("foreseen", ranks, table))
            self.assertEqual(due[0] == "ok", is_so, (ranks, table))
            self.assertEqual(outcome(check_foreseen, works, (1,), (0,), ("foreseen", ranks, table)), due)

    def test_papers_that_are_otherwise(self):
        chance = chance_of(206)
        many = {}
        for works, faults, sight in cases(207, 100, 5):
            hold_papers(self, check_told, told_check_told, (works, faults, sight), told_paper(works, faults, sight), chance, 80, many)
            hold_papers(self, check_foreseen, told_check_foreseen, (works, faults, sight), foreseen_paper(works, faults, sight), chance,
                        80, many)
        self.assertTrue(len(many) == 4 and min(many.values()) > 10, many)

    def test_papers_of_others(self):
        chance = chance_of(208)
        many = 0
        for works, faults, sight in cases(209, 120, 8):
            paper = told_paper(works, faults, sight)
            other = foreseen_paper(works, faults, sight)
            near = some_lot(chance, works[0], 0.3) or faults
            for args in ((works, near, sight), (works, faults, some_lot(chance, works[0]))):
                due = told_check_told(*args, paper)
                many += due[0] == "ok"
                self.assertEqual(outcome(check_told, *args, paper), due)
                due = told_check_foreseen(*args, other)
                many += due[0] == "ok"
                self.assertEqual(outcome(check_foreseen, *args, other), due)
        self.assertGreater(many, 100)


if __name__ == "__main__":
    unittest.main()
