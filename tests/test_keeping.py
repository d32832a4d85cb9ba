"""[30] to [33] PAIRS, GUARDS, what can be kept, papers on it: worksward/keeping.py, worksward/keepingpapers.py."""

import itertools
import unittest

from common import (CUBE, Equal, RING, SAMPLES, STILL, TRAP, chance_of, mutations, outcome, some_wish, some_works, told_ascending,
                    told_do, told_goal, told_is_pair, told_lot, told_next, told_place, told_rows, told_runs,
                    told_standings, told_start, told_tuple, told_wished)
from worksward.errors import BadPaper, Nothing, OutOfPlace
from worksward.keeping import both_pairs, can_keep, greatest_part, is_let, keeping_paper, kept_plan, let_deeds
from worksward.keepingpapers import check_keeping

ALL = {1: (((0,),), (0,)), 2: (((0, 0),), (0,)), 3: (((0, 0, 0),), (0,)), 4: (((0,) * 4,), (0,)), 6: (((0,) * 6,), (0,))}
# A ring by 0, back by 1, which cannot be stopped; 2 leads from the middle to a trap.
LOOSE = (3, (((0, 1, 2), (((0, 1),), ((1, 0), (2, 2)), ((0, 3), (1, 2)), ((0, 3),))),), (1,), ((0,),))
# Never deed 1 right behind deed 1, of three deeds.
APART = (((0, 1, 0), (0, 2, 0), (2, 2, 2)), (0, 1))


def told_moves(works, wish, pair):
    found = {}
    for deed in range(works[0]):
        after = told_next(works, wish, pair, deed)
        if after is not None:
            found[deed] = after
    return found


def told_part(works, wish):
    """The PAIRS that are left, each with the deeds that are let: PAIRS are taken away one by one; None if none is let."""
    left = {pair: told_moves(works, wish, pair) for pair in told_standings(works, wish)}
    while True:
        bad = [pair for pair in left if is_to_go(works, left, pair)]
        if not bad:
            break
        del left[sorted(bad)[0]]
    if (told_start(works), 0) not in left:
        return None
    table = {}
    waiting = [(told_start(works), 0)]
    while waiting:
        pair = waiting.pop()
        if pair not in table:
            table[pair] = tuple(deed for deed in sorted(left[pair]) if left[pair][deed] in left)
            waiting += [left[pair][deed] for deed in table[pair]]
    return table


def is_to_go(works, left, pair):
    """Whether a deed of FREE leads away from a PAIR, or no way that is left comes to a GOAL."""
    if any(deed in works[2] and after not in left for deed, after in left[pair].items()):
        return True
    known = {pair}
    waiting = [pair]
    while waiting:
        one = waiting.pop()
        if told_goal(works, one[0]):
            return False
        for after in left[one].values():
            if after in left and after not in known:
                known.add(after)
                waiting.append(after)
    return True


def all_guards(works, wish):
    """All GUARDS by PAIRS, each a dict of the deeds that it lets; of small works only."""
    pairs = sorted(told_standings(works, wish))
    choices = []
    for pair in pairs:
        moves = told_moves(works, wish, pair)
        free = tuple(deed for deed in moves if deed in works[2])
        rest = [deed for deed in moves if deed not in works[2]]
        choices.append([free + some for many in range(len(rest) + 1) for some in itertools.combinations(rest, many)])
    for picked in itertools.product(*choices):
        yield dict(zip(pairs, picked))


def does_guard_keep(works, wish, guard):
    """The PAIRS of the RUNS that a GUARD lets, if it keeps the WISH, otherwise None."""
    first = (told_start(works), 0)
    known = {first}
    waiting = [first]
    while waiting:
        pair = waiting.pop()
        for deed in guard[pair]:
            after = told_next(works, wish, pair, deed)
            if after == "out":
                return None
            if after not in known:
                known.add(after)
                waiting.append(after)
    ends = {pair for pair in known if told_goal(works, pair[0])}
    while True:
        more = {pair for pair in known if any(told_next(works, wish, pair, deed) in ends for deed in guard[pair])}
        if more <= ends:
            return known if known <= ends else None
        ends |= more


def told_check(works, wish, paper):
    if not told_tuple(paper, 2, 2) or type(paper[0]) is not str or paper[0] not in ("kept", "lost"):
        return ("BadPaper", "form")
    holds = told_kept(works, wish, paper[1]) if paper[0] == "kept" else told_lost(works, wish, paper[1])
    return ("ok", paper[0]) if holds else ("BadPaper", paper[0])


def told_kept(works, wish, table):
    if type(table) is not tuple:
        return False
    for row in table:
        if not told_tuple(row, 2, 2) or not told_is_pair(works, wish, row[0]) or not told_lot(row[1], works[0]):
            return False
    pairs = [row[0] for row in table]
    if not told_ascending(pairs) or (told_start(works), 0) not in pairs:
        return False
    lists = dict(table)
    for pair, deeds in table:
        moves = told_moves(works, wish, pair)
        if not all(deed in moves and moves[deed] in lists for deed in deeds):
            return False
        if not all(deed in deeds for deed in moves if deed in works[2]):
            return False
    for pair in pairs:
        known = [pair]
        for one in known:
            known += [after for after in {told_moves(works, wish, one)[deed] for deed in lists[one]} if after not in known]
        if not any(told_goal(works, one[0]) for one in known):
            return False
    return True


def told_lost(works, wish, stages):
    if type(stages) is not tuple or not stages:
        return False
    ahead = set()
    pairs = []
    for stage in stages:
        if not told_tuple(stage, 2, 2) or type(stage[0]) is not str or stage[0] not in ("free", "still"):
            return False
        if type(stage[1]) is not tuple:
            return False
        if stage[0] == "free" and not all(told_tuple(row, 2, 2) and type(row[1]) is int for row in stage[1]):
            return False
        pairs = [row[0] for row in stage[1]] if stage[0] == "free" else list(stage[1])
        if not all(told_is_pair(works, wish, pair) and pair not in ahead for pair in pairs) or not told_ascending(pairs):
            return False
        for row in stage[1]:
            if stage[0] == "free":
                after = told_moves(works, wish, row[0]).get(row[1])
                if row[1] not in works[2] or not (after == "out" or after in ahead):
                    return False
            else:
                if told_goal(works, row[0]):
                    return False
                if not all(after == "out" or after in ahead or after in pairs
                           for after in told_moves(works, wish, row).values()):
                    return False
        ahead |= set(pairs)
    return (told_start(works), 0) in pairs


def cases(seed, many, deeds=3, most=3):
    chance = chance_of(seed)
    for _ in range(many):
        works = some_works(chance, chance.randint(1, deeds), most=most, part=0.8)
        yield works, some_wish(chance, works[0], chance.randint(1, 4), part=0.8)


class Keeping(unittest.TestCase):
    def test_pairs_that_come(self):
        self.assertEqual(both_pairs(LOOSE, ALL[3]), (((0,), 0), ((1,), 0), ((2,), 0), ((3,), 0)))
        self.assertEqual(both_pairs(LOOSE, (((0, 1, 1), (1, 1, 1)), (0,))), (((0,), 0), ((1,), 0)))
        for works, wish in cases(50, 60):
            self.assertEqual(both_pairs(works, wish), tuple(sorted(told_standings(works, wish))))

    def test_what_is_wished_alone_does_not_do(self):
        # From the places 2 and 3 no GOAL comes: deed 2 is not let, it can be stopped.
        self.assertIs(can_keep(LOOSE, ALL[3]), True)
        self.assertEqual(greatest_part(LOOSE, ALL[3]), ((((0,), 0), (0,)), (((1,), 0), (1,))))
        self.assertEqual(keeping_paper(LOOSE, ALL[3]), ("kept", greatest_part(LOOSE, ALL[3])))
        self.assertEqual(let_deeds(LOOSE, ALL[3], (0,)), (1,))
        self.assertIs(is_let(LOOSE, ALL[3], (0, 1, 0)), True)
        self.assertIs(is_let(LOOSE, ALL[3], (0, 2)), False)
        self.assertEqual(kept_plan(LOOSE, ALL[3]), (3, (((0, 1),), ((1, 0),)), (0,)))

    def test_what_cannot_be_stopped(self):
        # In TRAP deed 1 leads from the middle to the trap and cannot be stopped: deed 0 is not let at first.
        self.assertEqual(greatest_part(TRAP, ALL[3]), ((((0,), 0), (2,)), (((2,), 0), (2,))))
        self.assertEqual(kept_plan(TRAP, ALL[3]), (3, (((2, 1),), ((2, 0),)), (1,)))
        loose = TRAP[:2] + ((),) + TRAP[3:]
        self.assertEqual(greatest_part(loose, ALL[3]),
                         ((((0,), 0), (0, 2)), (((1,), 0), (0,)), (((2,), 0), (2,))))
        all_free = TRAP[:2] + ((0, 1, 2),) + TRAP[3:]
        self.assertIs(can_keep(all_free, ALL[3]), False)

    def test_wishes_that_cannot_be_kept(self):
        apart = (((0, 1), (0, 2), (2, 2)), (0, 1))
        self.assertIs(can_keep(RING, apart), False)
        self.assertEqual(check_keeping(RING, apart, keeping_paper(RING, apart)), "lost")
        self.assertIs(is_let(RING, apart, ()), False)
        for call in (greatest_part, kept_plan):
            with self.assertRaises(Nothing):
                call(RING, apart)
        with self.assertRaises(OutOfPlace):
            let_deeds(RING, apart, ())
        # The first PAIR is no GOAL and still, or has none ahead.
        self.assertEqual(keeping_paper(STILL, ALL[1]), ("lost", (("still", (((0,), 0),)),)))
        self.assertIs(can_keep(STILL[:3] + (((0,),),), ALL[1]), True)
        self.assertEqual(greatest_part(STILL[:3] + (((0,),),), ALL[1]), ((((0,), 0), ()),))

    def test_a_goal_is_one_whatever_its_state(self):
        wish = (((1, 1, 1), (2, 2, 2), (2, 2, 2)), (0, 1))
        # Just one deed is wished; behind it the place is a GOAL.
        self.assertEqual(greatest_part(TRAP, wish), ((((0,), 0), (2,)), (((2,), 1), ())))

    def test_all_guards_of_small_works(self):
        kept = 0
        for works, wish in cases(51, 400, 2, 2):
            if len(told_standings(works, wish)) > 5:
                continue
            lists = {}
            for guard in all_guards(works, wish):
                pairs = does_guard_keep(works, wish, guard)
                for pair in pairs or ():
                    lists.setdefault(pair, set()).update(guard[pair])
            self.assertIs(can_keep(works, wish), bool(lists))
            if lists:
                kept += 1
                due = tuple(sorted((pair, tuple(sorted(deeds))) for pair, deeds in lists.items()))
                self.assertEqual(greatest_part(works, wish), due)
        self.assertGreater(kept, 40)

    def test_by_chance(self):
        seen = {True: 0, False: 0}
        for works, wish in cases(52, 250, 4, 4):
            part = told_part(works, wish)
            seen[part is not None] += 1
            self.assertIs(can_keep(works, wish), part is not None)
            paper = keeping_paper(works, wish)
            self.assertEqual(paper[0], "lost" if part is None else "kept")
            self.assertEqual(check_keeping(works, wish, paper), paper[0])
            self.assertEqual(told_check(works, wish, paper), ("ok", paper[0]))
            if part is None:
                self.assertEqual(outcome(greatest_part, works, wish), ("Nothing",))
                self.assertEqual(outcome(kept_plan, works, wish), ("Nothing",))
            else:
                self.assertEqual(greatest_part(works, wish), tuple(sorted(part.items())))
                self.assertEqual(kept_plan(works, wish), self.plan(works, wish, part))
            self.check_runs(works, wish, part)
        self.assertTrue(min(seen.values()) > 40, seen)

    def plan(self, works, wish, part):
        order = [(told_start(works), 0)]
        for pair in order:
            for deed in part[pair]:
                after = told_next(works, wish, pair, deed)
                if after not in order:
                    order.append(after)
        rows = tuple(tuple((deed, order.index(told_next(works, wish, pair, deed))) for deed in part[pair]) for pair in order)
        return (works[0], rows, tuple(k for k, pair in enumerate(order) if told_goal(works, pair[0])))

    def check_runs(self, works, wish, part):
        for row in told_rows(works[0], 3):
            pair = (told_start(works), 0) if part is not None else None
            for deed in row:
                pair = told_next(works, wish, pair, deed) if pair is not None and deed in part[pair] else None
            self.assertIs(is_let(works, wish, row), pair is not None)
            due = ("OutOfPlace",) if pair is None else ("ok", part[pair])
            self.assertEqual(outcome(let_deeds, works, wish, row), due)

    def test_long_runs(self):
        self.assertIs(is_let(LOOSE, ALL[3], (0, 1) * 5000), True)
        self.assertIs(is_let(LOOSE, ALL[3], (0, 1) * 5000 + (0, 2)), False)
        self.assertEqual(let_deeds(LOOSE, ALL[3], (0, 1) * 200), (0,))
        with self.assertRaises(OutOfPlace):
            let_deeds(LOOSE, ALL[3], (0, 1) * 200 + (0,))

    def test_what_is_no_run(self):
        for run in (None, [0], (1,), (0, 0), (True,), (0.0,), "0", (3,), ((0,),), 0, (0, [])):
            self.assertIs(is_let(LOOSE, ALL[3], run), False)
            with self.assertRaises(OutOfPlace):
                let_deeds(LOOSE, ALL[3], run)


class KeepingPapers(unittest.TestCase):
    TABLE = ((((0,), 0), (0,)), (((1,), 0), (1,)))

    def bad(self, part, works, wish, paper):
        with self.assertRaises(BadPaper) as caught:
            check_keeping(works, wish, paper)
        self.assertEqual(caught.exception.part, part, paper)

    def test_words_and_form(self):
        for paper in (None, (), "kept", ["kept", ()], ("kept",), ("kept", (), ()), ("lost",), ("lost", (), ()), ("exact", ()),
                      (True, ()), (None, ()), ([], ()), (("kept",), ()), (b"kept", ()), ("free", ()), ("still", ()), ("", ())):
            self.bad("form", LOOSE, ALL[3], paper)

    def test_tables(self):
        table = self.TABLE
        self.assertEqual(check_keeping(LOOSE, ALL[3], ("kept", table)), "kept")
        one, two = table
        for bad in ((), (one,), (two,), (two, one), (one, one, two), list(table), None, 5, (one, list(two)), (one, two + ((),)),
                    (one, two[:1]), (([(0,), 0], (0,)), two), ((((0,), 0), [0]), two), ((((0,), False), (0,)), two),
                    ((((0,), 0), (False,)), two), ((((0,), 0), (0.0,)), two), ((([0], 0), (0,)), two), (((0, 0), (0,)), two),
                    ((((0,), 1), (0,)), two), ((((4,), 0), (0,)), two), ((((0,), 0), (0, 0)), two), ((((0,), 0), (3,)), two)):
            self.bad("kept", LOOSE, ALL[3], ("kept", bad))
        # Deeds that cannot be done there, or lead elsewhere.
        self.bad("kept", LOOSE, ALL[3], ("kept", ((((0,), 0), (0, 1)), two)))
        self.bad("kept", LOOSE, ALL[3], ("kept", (one, (((1,), 0), (1, 2)))))
        # The deed of FREE is not there.
        self.bad("kept", LOOSE, ALL[3], ("kept", (one, (((1,), 0), ()))))
        self.assertEqual(check_keeping(LOOSE, ALL[3], ("kept", ((((0,), 0), ()),))), "kept")
        # No GOAL is ahead any more.
        trap = (one, (((1,), 0), (1, 2)), (((2,), 0), (0, 1)), (((3,), 0), (0,)))
        self.bad("kept", LOOSE, ALL[3], ("kept", trap))
        shut = LOOSE[:2] + ((),) + LOOSE[3:]
        self.bad("kept", shut, ALL[3], ("kept", (one, (((1,), 0), ()))))
        # No PAIR twice, though the deeds ascend.
        self.bad("kept", shut, ALL[3], ("kept", ((((0,), 0), ()), (((0,), 0), (0,)), two)))
        self.assertEqual(check_keeping(shut, ALL[3], ("kept", ((((0,), 0), ()),))), "kept")

    def test_states_that_are_not_good(self):
        wish = (((1, 1, 1), (1, 1, 1)), (0,))
        self.assertEqual(check_keeping(LOOSE, wish, ("kept", ((((0,), 0), ()),))), "kept")
        self.bad("kept", LOOSE, wish, ("kept", ((((0,), 0), ()), (((0,), 1), ()))))
        self.bad("kept", LOOSE, wish, ("kept", ((((0,), 0), (0,)), (((1,), 1), ()))))

    def test_pairs_of_papers_need_not_come(self):
        works = (1, (((0,), (((0, 0),), ((0, 1),), ())),), (), ((0, 2),))
        wish = (((0,), (1,)), (0, 1))
        table = ((((0,), 0), (0,)), (((0,), 1), ()), (((2,), 0), ()))
        self.assertEqual(check_keeping(works, wish, ("kept", table)), "kept")
        self.bad("kept", works, wish, ("kept", table[:2] + ((((1,), 0), (0,)),)))
        lost = (works[0], works[1], (), ((1,),))
        stages = (("still", (((2,), 1),)), ("free", ()), ("still", (((0,), 0), ((2,), 0))))
        self.assertEqual(check_keeping(lost, wish, ("lost", stages)), "lost")

    def test_stages(self):
        shut = (3, (((0, 1, 2), (((0, 1), (1, 1)), ())),), (1,), ((0,),))
        first, end = ((0,), 0), ((1,), 0)
        stages = (("still", (end,)), ("free", ((first, 1),)))
        self.assertEqual(check_keeping(shut, ALL[3], ("lost", stages)), "lost")
        self.assertEqual(check_keeping(shut, ALL[3], ("lost", (("free", ()), ("still", ())) + stages)), "lost")
        for bad in ((), stages[:1], stages[1:], stages[::-1], list(stages), None, 0, stages + (("free", ()),),
                    (("still", (end,)), ["free", ((first, 1),)]), (("still", (end,)), ("free", ((first, 0),))),
                    (("still", (end,)), ("free", ((first, True),))), (("still", (end,)), ("free", ((first, 1.0),))),
                    (("still", (end,)), ("free", ((first,),))), (("still", (end,)), ("free", ((first, 1, 1),))),
                    (("still", (end,)), ("free", ((first, 1), (first, 1)))), (("still", (end, end)), ("free", ((first, 1),))),
                    (("still", (first, end)),), (("still", (end,)), ("free", ((first, 2),))), (("kept", (end,)),) + stages[1:],
                    (("still", [end]),) + stages[1:], (("still",),) + stages[1:], (("still", (end,), ()),) + stages[1:],
                    (("still", (end,)), ("still", (end,))) + stages[1:], (("still", ()),) + stages[1:],
                    (("still", ((end, 1),)),) + stages[1:], ((True, (end,)),) + stages[1:], (stages,), ((), stages[1]),
                    (("still", (end,)), ("free", ((first, None),))), (("still", (end,)), ("free", (first,))),
                    (("still", (end,)), ("free", [(first, 1)])), (("still", (end,)), ("free", ((first, -1),))),
                    (("still", (((1,), False),)),) + stages[1:], (("still", (((1,), 1),)),) + stages[1:]):
            self.bad("lost", shut, ALL[3], ("lost", bad))

    def test_still_stages_have_no_way_on(self):
        # Both lead to one another alone, the second one to a stage ahead, too.
        works = (2, (((0, 1), (((0, 1),), ((0, 0), (1, 2)), ())),), (), ((),))
        all_of_it = ("still", (((0,), 0), ((1,), 0), ((2,), 0)))
        wish = ALL[2]
        self.assertEqual(check_keeping(works, wish, ("lost", (all_of_it,))), "lost")
        end = ("still", (((2,), 0),))
        both = ("still", (((0,), 0), ((1,), 0)))
        self.assertEqual(check_keeping(works, wish, ("lost", (end, both))), "lost")
        self.bad("lost", works, wish, ("lost", (both,)))
        self.bad("lost", works, wish, ("lost", (("still", (((0,), 0),)),)))
        # The stage behind does not help.
        self.bad("lost", works, wish, ("lost", (both, end)))
        # A GOAL is in none of them.
        self.bad("lost", works[:3] + (((2,),),), wish, ("lost", (end, both)))
        # What is not wished is no way on.
        few = (((0, 1), (1, 1)), (0,))
        self.assertEqual(check_keeping(works, few, ("lost", (both,))), "lost")
        # A PAIR that is not good stands in no stage.
        self.bad("lost", works, few, ("lost", (("still", (((0,), 1),)), both)))

    def test_free_stages(self):
        works = (2, (((0, 1), (((0, 1),), ((0, 0), (1, 1)))),), (0, 1), ((0, 1),))
        wish = (((0, 1), (1, 1)), (0,))
        one, two = ("free", ((((1,), 0), 1),)), ("free", ((((0,), 0), 0),))
        self.assertEqual(check_keeping(works, wish, ("lost", (one, two))), "lost")
        # Of the same stage it does not count as ahead.
        self.bad("lost", works, wish, ("lost", (("free", ((((0,), 0), 0), (((1,), 0), 1))),)))
        self.bad("lost", works, wish, ("lost", (two,)))
        # Deeds that can be stopped, or cannot be done.
        self.bad("lost", works[:2] + ((0,),) + works[3:], wish, ("lost", (one, two)))
        self.bad("lost", works, wish, ("lost", (one, ("free", ((((0,), 0), 1),)))))
        self.bad("lost", works, wish, ("lost", (("free", ((((1,), 0), 0),)), two)))

    def test_stages_ascend_though_pairs_come_otherwise(self):
        # The place 2 comes ahead of 1; from both a deed of FREE leads out at once.
        works = (2, (((0, 1), (((0, 2), (1, 1)), ((0, 0),), ((0, 0),))),), (0,), ((0,),))
        wish = (((1, 2), (3, 3), (3, 3), (3, 3)), (0, 1, 2))
        one, two = ((1,), 2), ((2,), 1)
        self.assertEqual(keeping_paper(works, wish),
                         ("lost", (("free", ((one, 0), (two, 0))), ("free", ((((0,), 0), 0),)))))
        self.bad("lost", works, wish, ("lost", (("free", ((two, 0), (one, 0))), ("free", ((((0,), 0), 0),)))))
        # And from both nothing leads on to a GOAL.
        end = (2, (((0, 1), (((0, 2), (1, 1)), (), ())),), (), ((),))
        self.assertEqual(keeping_paper(end, ALL[2]), ("lost", (("still", (((0,), 0), ((1,), 0), ((2,), 0))),)))

    def test_stages_of_no_word(self):
        shut = (3, (((0, 1, 2), (((0, 1), (1, 1)), ())),), (1,), ((0,),))
        stages = (("still", (((1,), 0),)), ("free", ((((0,), 0), 1),)))
        for word in ("kept", "", None, True, Equal(), ("still",), b"still", "Still"):
            self.bad("lost", shut, ALL[3], ("lost", ((word, ()),) + stages))
            self.bad("form", shut, ALL[3], ("still" if type(word) is str else word, stages))

    def test_papers_that_are_otherwise(self):
        chance = chance_of(53)
        many = {"kept": 0, "lost": 0}
        for works, wish in cases(54, 60):
            for thing in mutations(keeping_paper(works, wish), chance, 200):
                due = told_check(works, wish, thing)
                self.assertEqual(outcome(check_keeping, works, wish, thing), due, (works, wish, thing))
                if due[0] == "ok":
                    many[due[1]] += 1
        self.assertTrue(min(many.values()) > 5, many)

    def test_papers_of_other_works_and_wishes(self):
        """That a paper holds of what it was not made for just where the document says so."""
        chance = chance_of(55)
        many = 0
        for works, wish in cases(56, 120):
            paper = keeping_paper(works, wish)
            other = works[:2] + (tuple(deed for deed in range(works[0]) if chance.random() < 0.5),) + works[3:]
            near = (wish[0], tuple(sorted({0} | {state for state in range(len(wish[0])) if chance.random() < 0.6})))
            for one, two in ((other, wish), (works, near), (other, near)):
                due = told_check(one, two, paper)
                many += due[0] == "ok"
                self.assertEqual(outcome(check_keeping, one, two, paper), due)
        self.assertGreater(many, 20)

    def test_order_of_errors(self):
        self.assertEqual(outcome(check_keeping, None, None, None), ("BadWorks", "form"))
        self.assertEqual(outcome(check_keeping, CUBE, None, None), ("BadWish", "form"))
        self.assertEqual(outcome(check_keeping, CUBE, ALL[2], None), ("BadWish", "steps"))
        self.assertEqual(outcome(let_deeds, CUBE, ALL[3], (5,)), ("OutOfPlace",))
        self.assertEqual(outcome(let_deeds, CUBE, ALL[2], None), ("BadWish", "steps"))
        self.assertEqual(outcome(is_let, CUBE, None, None), ("BadWish", "form"))


class Words(unittest.TestCase):
    def test_samples(self):
        # Every sample with the wish for all rows: the RUNS that go on to a GOAL for ever.
        for works in SAMPLES:
            wish = ALL[works[0]]
            part = told_part(works, wish)
            self.assertIs(can_keep(works, wish), part is not None)
            self.assertIs(is_let(works, wish, ()), part is not None)

    def test_let_runs_are_wished_runs(self):
        for works, wish in cases(57, 60):
            for run in told_runs(works, 4):
                if is_let(works, wish, run):
                    self.assertTrue(told_wished(wish, run))
                    self.assertIsNotNone(told_place(works, run))
                    free = [deed for deed in works[2] if told_do(works, told_place(works, run), deed) is not None]
                    self.assertTrue(set(free) <= set(let_deeds(works, wish, run)))
        self.assertIs(is_let(LOOSE, APART, (0, 1, 0, 1)), True)


if __name__ == "__main__":
    unittest.main()
