"""[34] Exact wishes, papers on them, and the WIDER PART: worksward/exacts.py, worksward/exactpapers.py."""

import unittest

from common import (CUBE, RING, STILL, TRAP, chance_of, mutations, outcome, some_lot, some_wish, some_works, told_ascending, told_do,
                    told_int, told_is_pair, told_next, told_place, told_runs, told_rows, told_standings, told_start,
                    told_tuple, told_wished)
from worksward.errors import BadPaper
from worksward.exactpapers import check_exact
from worksward.exacts import exact_paper, is_exact, is_wider

ALL2 = (((0, 0),), (0,))
ALL3 = (((0, 0, 0),), (0,))
# Never deed 1 right behind deed 1.
APART = (((0, 1), (0, 2), (2, 2)), (0, 1))
# Never deed 1 at all.
NO_1 = (((0, 1), (1, 1)), (0,))
# No deed at all; behind the first one the state is good again.
NONE = (((1, 1), (0, 0)), (0,))
LOOSE = RING[:2] + ((),) + RING[3:]
ALL_FREE = RING[:2] + ((0, 1),) + RING[3:]


def told_exact(works, wish):
    """Whether no deed of FREE leads out from a STANDING."""
    return not any(told_next(works, wish, pair, deed) == "out" for pair in told_standings(works, wish) for deed in works[2])


def told_wider(works, wish, run):
    """Whether a RUN has a wished beginning behind which all its deeds are of FREE."""
    if told_place(works, run) is None:
        return False
    return any(told_wished(wish, run[:k]) and all(deed in works[2] for deed in run[k:]) for k in range(len(run) + 1))


def told_check(works, wish, paper):
    sizes = {"exact": 2, "out": 3}
    if type(paper) is not tuple or not paper or type(paper[0]) is not str or sizes.get(paper[0]) != len(paper):
        return ("BadPaper", "form")
    holds = told_table(works, wish, paper[1]) if paper[0] == "exact" else told_out(works, wish, *paper[1:])
    return ("ok", paper[0]) if holds else ("BadPaper", paper[0])


def told_table(works, wish, table):
    if type(table) is not tuple or not all(told_is_pair(works, wish, pair) for pair in table):
        return False
    if not told_ascending(table) or (told_start(works), 0) not in table:
        return False
    for pair in table:
        for deed in range(works[0]):
            after = told_next(works, wish, pair, deed)
            if after == "out" and deed in works[2]:
                return False
            if after not in ("out", None) and after not in table:
                return False
    return True


def told_out(works, wish, run, deed):
    if type(run) is not tuple or not all(told_int(one, 0, works[0] - 1) for one in run):
        return False
    if told_place(works, run) is None or not told_wished(wish, run):
        return False
    if type(deed) is not int or deed not in works[2]:
        return False
    return told_place(works, run + (deed,)) is not None and not told_wished(wish, run + (deed,))


def cases(seed, many):
    chance = chance_of(seed)
    for _ in range(many):
        works = some_works(chance, chance.randint(1, 3), chance.randint(1, 2), most=3, part=0.9)
        works = works[:2] + (some_lot(chance, works[0], 0.6),) + works[3:]
        yield works, some_wish(chance, works[0], chance.randint(2, 4), part=0.6)


class Exacts(unittest.TestCase):
    def test_exact_wishes(self):
        self.assertIs(is_exact(RING, ALL2), True)
        self.assertIs(is_exact(RING, APART), False)
        self.assertIs(is_exact(LOOSE, APART), True)
        self.assertIs(is_exact(RING, NO_1), False)
        self.assertIs(is_exact(LOOSE, NO_1), True)
        self.assertIs(is_exact(RING, NONE), True)
        self.assertIs(is_exact(ALL_FREE, NONE), False)
        self.assertIs(is_exact(STILL, (((0,),), (0,))), True)

    def test_goals_do_not_matter(self):
        for works in (RING, LOOSE, TRAP):
            wish = ALL3 if works == TRAP else APART
            for goals in (((),), ((0,),), ((0, 1),)):
                self.assertIs(is_exact(works[:3] + (goals,), wish), is_exact(works, wish))

    def test_papers(self):
        self.assertEqual(exact_paper(RING, ALL2), ("exact", (((0,), 0), ((1,), 0), ((2,), 0))))
        self.assertEqual(exact_paper(RING, APART), ("out", (0, 0, 1), 1))
        self.assertEqual(exact_paper(RING, NO_1), ("out", (0, 0), 1))

    def test_by_chance(self):
        seen = {True: 0, False: 0}
        for works, wish in cases(60, 250):
            exact = told_exact(works, wish)
            seen[exact] += 1
            self.assertIs(is_exact(works, wish), exact)
            paper = exact_paper(works, wish)
            self.assertEqual(paper[0], "exact" if exact else "out")
            self.assertEqual(check_exact(works, wish, paper), paper[0])
            self.assertEqual(told_check(works, wish, paper), ("ok", paper[0]))
        self.assertTrue(min(seen.values()) > 10, seen)


class WiderPart(unittest.TestCase):
    def test_wider_runs(self):
        self.assertIs(is_wider(RING, APART, (0, 0, 1)), True)
        # The second deed 1 is not wished, but cannot be stopped; 0 behind it can.
        self.assertIs(is_wider(RING, APART, (0, 0, 1, 1)), True)
        self.assertIs(is_wider(RING, APART, (0, 0, 1, 1, 1)), True)
        self.assertIs(is_wider(RING, APART, (0, 0, 1, 1, 0)), False)
        self.assertIs(is_wider(LOOSE, APART, (0, 0, 1, 1)), False)
        # The deed that leads out is to be of FREE, too.
        self.assertIs(is_wider(RING, NONE, (0,)), False)
        self.assertIs(is_wider(ALL_FREE, NONE, (0,)), True)
        self.assertIs(is_wider(ALL_FREE, NONE, (0, 0, 1)), True)
        self.assertIs(is_wider(RING, NONE, ()), True)

    def test_states_behind_do_not_matter(self):
        # Behind the deed that leads out the state is good again: no deed that can be stopped counts as wished.
        self.assertIs(is_wider(RING[:2] + ((0,),) + RING[3:], NONE, (0, 0, 1)), False)
        self.assertIs(is_wider(RING[:2] + ((0,),) + RING[3:], NONE, (0, 0)), True)

    def test_by_chance(self):
        wider = 0
        for works, wish in cases(61, 150):
            for row in told_rows(works[0], 4):
                due = told_wider(works, wish, row)
                self.assertIs(is_wider(works, wish, row), due)
                wider += due and not told_wished(wish, row)
            if told_exact(works, wish):
                for run in told_runs(works, 4):
                    self.assertEqual(is_wider(works, wish, run), told_wished(wish, run))
        self.assertGreater(wider, 100)

    def test_long_runs_and_any_values(self):
        self.assertIs(is_wider(RING, APART, (0, 0, 1, 0) * 3000), True)
        self.assertIs(is_wider(RING, APART, (0, 0, 1, 0) * 3000 + (0, 0) + (1,) * 5000), True)
        self.assertIs(is_wider(RING, APART, (0, 0, 1, 0) * 3000 + (0, 0) + (1,) * 5000 + (0,)), False)
        for value in (None, 0, [], [0], "0", (True,), (False,), (0.0,), (1,), (0, 1), (2,), ((0,),), ({},), {}, (0, None),
                      (False,), (0, False), (0, 0, True), (0, 0, 1.0), (0, 0, 1, True), (0, 0, 1, 1, True)):
            self.assertIs(is_wider(RING, APART, value), False)


class ExactPapers(unittest.TestCase):
    TABLE = (((0,), 0), ((1,), 0), ((2,), 0))

    def bad(self, part, works, wish, paper):
        with self.assertRaises(BadPaper) as caught:
            check_exact(works, wish, paper)
        self.assertEqual(caught.exception.part, part, paper)

    def test_words_and_form(self):
        for paper in (None, (), "exact", ["exact", ()], ("exact",), ("exact", (), ()), ("out",), ("out", ()), ("out", (), 1, 1),
                      ("kept", ()), ("lost", ()), (True, ()), (None, (), 1), ([], ()), (("out",), (), 1), (b"out", (), 1)):
            self.bad("form", RING, APART, paper)

    def test_tables(self):
        table = self.TABLE
        self.assertEqual(check_exact(RING, ALL2, ("exact", table)), "exact")
        for bad in ((), table[1:], table[:2], table[::-1], table + table[-1:], list(table), None, 0, (table,),
                    (((False,), 0),) + table[1:], (((0,), False),) + table[1:], (((0,), 0.0),) + table[1:],
                    (((0,), 0, 0),) + table[1:], (([0], 0),) + table[1:], ([(0,), 0],) + table[1:], ((0, 0),) + table[1:],
                    table + (((3,), 0),), table[:2] + (((2,), 1),), table + (((2,), 1),)):
            self.bad("exact", RING, ALL2, ("exact", bad))

    def test_deeds_that_can_be_stopped_may_lead_out(self):
        table = (((0,), 0), ((1,), 0), ((2,), 0), ((2,), 1))
        self.assertEqual(check_exact(LOOSE, APART, ("exact", table)), "exact")
        # Deed 0 leads back to 0 and 0, deed 1 to 2 and 2, which is not good.
        self.bad("exact", RING, APART, ("exact", table))
        self.bad("exact", LOOSE, APART, ("exact", table[:3]))
        self.assertEqual(check_exact(LOOSE, NO_1, ("exact", table[:3])), "exact")
        # A deed that can be stopped does not lead to a good PAIR that is missing.
        self.bad("exact", LOOSE, NO_1, ("exact", (((0,), 0), ((1,), 0))))
        # A PAIR that is not good is none of the TABLE.
        self.bad("exact", LOOSE, NO_1, ("exact", table))

    def test_pairs_of_papers_need_not_come(self):
        works = (1, (((0,), (((0, 0),), ((0, 1),), ())),), (), ((),))
        wish = (((0,), (1,)), (0, 1))
        self.assertEqual(check_exact(works, wish, ("exact", (((0,), 0), ((1,), 1), ((2,), 0)))), "exact")

    def test_out(self):
        self.assertEqual(check_exact(RING, APART, ("out", (0, 0, 1), 1)), "out")
        self.assertEqual(check_exact(RING, APART, ("out", (0, 0, 1, 0) * 300 + (0, 0, 1), 1)), "out")
        for run, deed in (((0, 0), 1), ((0, 0, 1), 0), ((0, 0, 1), True), ((0, 0, 1), 1.0), ((0, 0, 1), None), ((0, 0, 1), 2),
                          ((0, 0, 1), -1), ((0, 0, 1), (1,)), ((0, 0, 1, 1), 1), ((), 1), ((0,), 1), ((0, 0, 1, 1), 0),
                          ([0, 0, 1], 1), (None, 1), ((0, 0, True), 1), ((0, 0, 1.0), 1), ((1, 1), 1), ("001", 1), (1, (0, 0, 1)),
                          ((0, 0, 1), [1]), ((0, 0, 1), "1")):
            self.bad("out", RING, APART, ("out", run, deed))
        # A deed that can be stopped.
        self.bad("out", LOOSE, APART, ("out", (0, 0, 1), 1))
        # A deed that cannot be done there.
        self.bad("out", RING, NO_1, ("out", (0,), 1))

    def test_papers_that_are_otherwise(self):
        chance = chance_of(62)
        many = {"exact": 0, "out": 0}
        for works, wish in cases(63, 70):
            for thing in mutations(exact_paper(works, wish), chance, 200):
                due = told_check(works, wish, thing)
                self.assertEqual(outcome(check_exact, works, wish, thing), due, thing)
                if due[0] == "ok":
                    many[due[1]] += 1
        self.assertTrue(min(many.values()) > 3, many)

    def test_papers_of_other_works_and_wishes(self):
        chance = chance_of(64)
        many = 0
        for works, wish in cases(65, 120):
            paper = exact_paper(works, wish)
            other = works[:2] + (tuple(deed for deed in range(works[0]) if chance.random() < 0.4),) + works[3:]
            near = (wish[0], tuple(sorted({0} | {state for state in range(len(wish[0])) if chance.random() < 0.6})))
            for one, two in ((other, wish), (works, near), (other, near)):
                due = told_check(one, two, paper)
                many += due[0] == "ok"
                self.assertEqual(outcome(check_exact, one, two, paper), due)
        self.assertGreater(many, 20)

    def test_all_short_rows_out(self):
        for works, wish in cases(66, 40):
            for run in told_rows(works[0], 3):
                for deed in range(works[0]):
                    paper = ("out", run, deed)
                    self.assertEqual(outcome(check_exact, works, wish, paper), told_check(works, wish, paper))

    def test_order_of_errors(self):
        self.assertEqual(outcome(check_exact, None, None, None), ("BadWorks", "form"))
        self.assertEqual(outcome(check_exact, CUBE, None, None), ("BadWish", "form"))
        self.assertEqual(outcome(check_exact, CUBE, ALL2, None), ("BadWish", "steps"))
        self.assertEqual(outcome(is_wider, CUBE, ALL2, None), ("BadWish", "steps"))
        self.assertIsNone(told_do(STILL, (0,), 0))


if __name__ == "__main__":
    unittest.main()
