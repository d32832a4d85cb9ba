"""[13] Alike WORKS and the papers on it: worksward/alikes.py, worksward/alikepapers.py."""

import unittest

from common import (CUBE, RING, SAMPLES, STILL, TRAP, WIDE, chance_of, mutations, outcome, some_works, told_ascending,
                    told_do, told_goal, told_int, told_is_place, told_place, told_rows, told_start, told_tuple,
                    told_works)
from worksward.alikepapers import check_alike
from worksward.alikes import alike_paper, are_alike, parting
from worksward.errors import BadPaper, OutOfPlace
from worksward.plans import renamed

# A ring of two by deed 0, and one of four; every second place is a goal.
RING2 = (1, (((0,), (((0, 1),), ((0, 0),))),), (), ((0,),))
RING4 = (1, (((0,), (((0, 1),), ((0, 2),), ((0, 3),), ((0, 0),))),), (0,), ((0, 2),))
RING3 = (1, (((0,), (((0, 1),), ((0, 2),), ((0, 0),))),), (), ((0,),))
# The same with three machines of which just one has anything.
TRIPLE = (1, (((), ((),)), RING4[1][0], ((), ((), ()))), (), ((0,), (0, 2), (0,)))
STEP = (1, (((0,), (((0, 1),), ())),), (), ((0, 1),))
LAME = (1, (((0,), ((),)),), (), ((0,),))


def told_parts(works, other, row):
    """Whether a row is as in a paper with "unlike"."""
    if row and (told_place(works, row[:-1]) is None or told_place(other, row[:-1]) is None):
        return False
    one, two = told_place(works, row), told_place(other, row)
    if one is None or two is None:
        return (one is None) != (two is None)
    return told_goal(works, one) != told_goal(other, two)


def told_alike(works, other):
    """Whether both are alike, by all pairs of places that come together."""
    known = {(told_start(works), told_start(other))}
    waiting = list(known)
    while waiting:
        one, two = waiting.pop()
        if told_goal(works, one) != told_goal(other, two):
            return False
        for deed in range(works[0]):
            both = (told_do(works, one, deed), told_do(other, two, deed))
            if (both[0] is None) != (both[1] is None):
                return False
            if both[0] is not None and both not in known:
                known.add(both)
                waiting.append(both)
    return True


def told_check(works, other, paper):
    if type(paper) is not tuple or len(paper) != 2 or type(paper[0]) is not str or paper[0] not in ("alike", "unlike"):
        return ("BadPaper", "form")
    word, thing = paper
    bad = ("BadPaper", word)
    if word == "unlike":
        if type(thing) is not tuple or not all(told_int(deed, 0, works[0] - 1) for deed in thing):
            return bad
        return ("ok", word) if told_parts(works, other, thing) else bad
    if type(thing) is not tuple:
        return bad
    for pair in thing:
        if not told_tuple(pair, 2, 2) or not told_is_place(works, pair[0]) or not told_is_place(other, pair[1]):
            return bad
    if not told_ascending(thing) or (told_start(works), told_start(other)) not in thing:
        return bad
    for one, two in thing:
        if told_goal(works, one) != told_goal(other, two):
            return bad
        for deed in range(works[0]):
            both = (told_do(works, one, deed), told_do(other, two, deed))
            if (both[0] is None) != (both[1] is None) or both[0] is not None and both not in thing:
                return bad
    return ("ok", word)


def variant(chance, works):
    """WORKS near to others: with one goal or one deed otherwise, or the same ones in another order."""
    deeds, machines, free, goals = works
    if chance.random() < 0.4:
        order = list(range(len(machines)))
        chance.shuffle(order)
        return (deeds, tuple(machines[k] for k in order), (), tuple(goals[k] for k in order))
    number = chance.randrange(len(machines))
    has, rows = machines[number]
    state = chance.randrange(len(rows))
    if rows[state] and chance.random() < 0.7:
        row = list(rows[state])
        at = chance.randrange(len(row))
        row[at] = (row[at][0], chance.randrange(len(rows)))
        rows = rows[:state] + (tuple(row),) + rows[state + 1:]
        changed = machines[:number] + ((has, rows),) + machines[number + 1:]
        return (deeds, changed, free, goals)
    lot = tuple(sorted(set(goals[number]) ^ {state}))
    return (deeds, machines, free, goals[:number] + (lot,) + goals[number + 1:])


def couples(seed, many):
    chance = chance_of(seed)
    found = []
    while len(found) < many:
        works = some_works(chance, chance.randint(1, 3), most=3, part=0.8)
        other = variant(chance, works) if chance.random() < 0.8 else some_works(chance, works[0], most=2, part=0.9)
        if told_works(other) is None:
            found.append((works, other))
    return found


class Alikes(unittest.TestCase):
    def test_alike_though_of_other_machines(self):
        for one, two in ((RING2, RING4), (RING4, RING2), (RING2, TRIPLE), (TRIPLE, RING4), (STILL, STILL)):
            self.assertIs(are_alike(one, two), True)
            self.assertIsNone(parting(one, two))
            paper = alike_paper(one, two)
            self.assertEqual(paper[0], "alike")
            self.assertEqual(check_alike(one, two, paper), "alike")

    def test_free_is_not_looked_at(self):
        for works in SAMPLES:
            for free in ((), tuple(range(works[0]))):
                self.assertIs(are_alike(works, works[:2] + (free,) + works[3:]), True)

    def test_unlike_by_a_goal(self):
        self.assertEqual(parting(RING2, RING3), (0, 0))
        self.assertEqual(alike_paper(RING2, RING3), ("unlike", (0, 0)))
        self.assertIs(are_alike(RING2, RING3), False)
        other = RING2[:3] + ((),)
        self.assertEqual(parting(RING2, other[:3] + (((),),)), ())
        self.assertEqual(alike_paper(RING2, other[:3] + (((),),)), ("unlike", ()))

    def test_unlike_by_a_run(self):
        self.assertEqual(parting(STEP, LAME), (0,))
        self.assertEqual(parting(LAME, STEP), (0,))
        self.assertEqual(parting(STEP, (1, (((0,), (((0, 0),),)),), (), ((0,),))), (0, 0))

    def test_the_first_run_that_parts_them(self):
        one = (2, (((0, 1), (((0, 1), (1, 1)), ((0, 1), (1, 1)))),), (), ((0,),))
        two = (2, (((0, 1), (((0, 1), (1, 2)), ((0, 1), (1, 1)), ((0, 2),))),), (), ((0,),))
        self.assertEqual(parting(one, two), (1, 1))
        three = (2, (((0, 1), (((0, 1), (1, 2)), ((0, 1),), ((0, 2),))),), (), ((0,),))
        self.assertEqual(parting(one, three), (0, 1))

    def test_by_chance(self):
        seen = {True: 0, False: 0}
        for works, other in couples(8, 150):
            alike = told_alike(works, other)
            seen[alike] += 1
            self.assertIs(are_alike(works, other), alike)
            paper = alike_paper(works, other)
            self.assertEqual(paper[0], "alike" if alike else "unlike")
            self.assertEqual(check_alike(works, other, paper), paper[0])
            self.assertEqual(told_check(works, other, paper), ("ok", paper[0]))
            run = parting(works, other)
            self.assertEqual(run is None, alike)
            if not alike and len(run) < 6:
                self.assertEqual(run, next(row for row in told_rows(works[0], 6) if told_parts(works, other, row)))
        self.assertTrue(seen[True] > 20 and seen[False] > 20, seen)

    def test_as_many_deeds(self):
        for call in (are_alike, alike_paper, parting):
            with self.assertRaises(OutOfPlace):
                call(RING, RING2)
        with self.assertRaises(OutOfPlace):
            check_alike(RING, RING2, None)

    def test_other_names_part_works(self):
        self.assertIs(are_alike(WIDE, renamed(WIDE, (1, 0))), True)
        self.assertIs(are_alike(RING, renamed(RING, (1, 0))), False)
        self.assertIs(are_alike(CUBE, TRAP), False)


class AlikePapers(unittest.TestCase):
    def bad(self, part, works, other, paper):
        with self.assertRaises(BadPaper) as caught:
            check_alike(works, other, paper)
        self.assertEqual(caught.exception.part, part, paper)

    def test_words_and_form(self):
        for paper in (None, (), "alike", ["alike", ()], ("alike",), ("alike", (), ()), ("unlike",), ("unlike", (), ()),
                      ("same", ()), (True, ()), (("alike",), ()), ({}, ()), ([], ()), (None, ()), (b"alike", ()), ("", ())):
            self.bad("form", RING2, RING4, paper)

    def test_tables(self):
        table = (((0,), (0,)), ((0,), (2,)), ((1,), (1,)), ((1,), (3,)))
        self.assertEqual(check_alike(RING2, RING4, ("alike", table)), "alike")
        for bad in ((), table[:3], table[1:], table[::-1], table + table[-1:], list(table), None, table[:1] + table,
                    (table,), table[:2] + (((1,), (0,)),) + table[2:], (((0,), (0,)), ((0,), (1,))) + table[1:],
                    (((False,), (0,)),) + table[1:], (((0.0,), (0,)),) + table[1:], ([(0,), (0,)],) + table[1:],
                    (((0,), [0]),) + table[1:], table[:3] + (((1,), (4,)),), table[:3] + (((1,), (3,), ()),), ((0, 0),)):
            self.bad("alike", RING2, RING4, ("alike", bad))

    def test_places_of_papers_need_not_come(self):
        lame = (1, (((0,), ((), (), ())),), (), ((0, 2),))
        self.assertEqual(check_alike(lame, lame, ("alike", (((0,), (0,)), ((0,), (2,)), ((1,), (1,))))), "alike")
        self.bad("alike", lame, lame, ("alike", (((0,), (0,)), ((0,), (1,)))))

    def test_each_deed_of_both_is_looked_at(self):
        # One can do more, then the other can do more.
        self.bad("alike", STEP, LAME, ("alike", (((0,), (0,)),)))
        self.bad("alike", LAME, STEP, ("alike", (((0,), (0,)),)))
        self.bad("alike", LAME, STEP, ("alike", (((0,), (0,)), ((0,), (1,)))))
        self.bad("alike", LAME, LAME[:3] + (((),),), ("alike", (((0,), (0,)),)))

    def test_runs(self):
        self.assertEqual(check_alike(RING2, RING3, ("unlike", (0, 0))), "unlike")
        self.assertEqual(check_alike(RING2, RING3, ("unlike", (0, 0, 0))), "unlike")
        self.assertEqual(check_alike(STEP, LAME, ("unlike", (0,))), "unlike")
        self.assertEqual(check_alike(LAME, STEP, ("unlike", (0,))), "unlike")
        for run in ((), (0,), (0, 0, 0, 0, 0, 0, 0), None, [0, 0], (False, 0), (0.0, 0), (0, 0, 1), (-1,), ("0",), "00"):
            self.bad("unlike", RING2, RING3, ("unlike", run))
        # A beginning of it is no RUN of the other one already.
        self.bad("unlike", RING2, LAME, ("unlike", (0, 0)))
        self.bad("unlike", LAME, RING2, ("unlike", (0, 0)))
        self.bad("unlike", LAME, LAME, ("unlike", (0,)))

    def test_runs_of_any_length(self):
        self.assertEqual(check_alike(RING2, RING3, ("unlike", (0,) * 602)), "unlike")
        self.bad("unlike", RING2, RING3, ("unlike", (0,) * 600))

    def test_papers_that_are_otherwise(self):
        chance = chance_of(9)
        many = 0
        for works, other in couples(10, 25) + [(RING2, RING3), (RING2, TRIPLE), (STEP, LAME)]:
            for thing in mutations(alike_paper(works, other), chance, 250):
                due = told_check(works, other, thing)
                self.assertEqual(outcome(check_alike, works, other, thing), due, thing)
                many += due[0] == "ok"
        self.assertGreater(many, 5)

    def test_there_is_never_one_of_each(self):
        for works, other in couples(11, 15):
            if told_alike(works, other):
                for row in told_rows(works[0], 4):
                    self.bad("unlike", works, other, ("unlike", row))


if __name__ == "__main__":
    unittest.main()
