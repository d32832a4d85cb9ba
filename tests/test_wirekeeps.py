"""[82], [83] What can be kept over a WIRE: worksward/wirekeeps.py, and the papers: worksward/wirepapers.py."""

import itertools
import unittest

from common import (CUBE, MANY, RING, SPANS60, SPANS61, STILL, Odd, all_events, all_sights, chance_of, hold_papers, junk, mutations,
                    no_papers, outcome, some_wire, some_wish, some_works, told_ascending, told_course, told_do, told_good, told_int,
                    told_judged, told_lot, told_moves, told_next, told_outs, told_row, told_run, told_spans, told_standings, told_start,
                    told_wire)
from worksward.errors import BadPaper
from worksward.sightkeeppapers import check_sight
from worksward.sightkeeps import can_keep_by
from worksward.wirekeeps import can_keep_over, keeping_wires, paper_for_less, paper_for_sight, wire_paper
from worksward.wirepapers import check_wire

# 0 and 1 lead apart, 2 back; behind 0 no 2 is wished.
FORK = (3, (((0, 1, 2), (((0, 1), (1, 2)), ((2, 0),), ((2, 0),))),), (), ((0,),))
ONE_WAY = (((1, 0, 2), (1, 0, 0), (2, 2, 2)), (0, 1))
ALL3 = (((0, 0, 0),), (0,))
# Just one 0: what follows must be forbidden at once.
ONCE = (2, (((0, 1), (((0, 0), (1, 0)),)),), (), ((0,),))
JUST_ONE = (((1, 0), (2, 1), (2, 2)), (0, 1))
# 0 is wished behind a 1 alone, and ends that.
TURNS = (((1, 0), (1, 2), (2, 2)), (0, 2))
AFTER = (((2, 1), (0, 1), (2, 2)), (0, 1))


# ---------------------------------------------------------------- told again

def told_related(works, wish, wire):
    """The set of the pairs of SPANS behind two COURSES with wished RUNS and the same NEWS."""
    first = (told_start(works), 0, (), 0)
    known = {(first, first)}
    waiting = [(first, first)]
    moves = {}
    while waiting:
        one, two = waiting.pop()
        for span in (one, two):
            if span not in moves:
                moves[span] = told_moves(works, wish, wire, span)
        found = [(target, two) for _, heard, target in moves[one] if heard is None]
        found += [(one, target) for _, heard, target in moves[two] if heard is None]
        found += [(target, other) for _, heard, target in moves[one] for _, deed, other in moves[two] if heard == deed is not None]
        for pair in found:
            if pair not in known:
                known.add(pair)
                waiting.append(pair)
    return known


def told_free_out(works, wish):
    return any(deed in works[2] for pair in told_standings(works, wish) for deed in told_outs(works, wish, pair))


def told_clash(works, wish, one, two):
    """Whether a deed leads from one SPAN to a good state, and from the other one to a bad one."""
    return any(told_good(works, wish, one[:2], deed) is not None for deed in told_outs(works, wish, two[:2]))


def told_keeps(works, wish, wire):
    if told_free_out(works, wish):
        return False
    return not any(told_clash(works, wish, one, two) for one, two in told_related(works, wish, wire))


def told_check(works, wish, wire, paper):
    def holds():
        call = {"kept": told_kept, "free": told_free, "alike": told_alike}[paper[0]]
        return call(works, wish, wire, *paper[1:])
    if len(told_spans(works, wish, wire, 60)) > 60:
        return ("TooMany", 60)
    return told_judged({"kept": 2, "free": 2, "alike": 4}, paper, holds)


def told_free(works, wish, wire, run):
    if type(run) is not tuple or not run or not told_int(run[-1], 0, works[0] - 1):
        return False
    pair = told_run(works, wish, run[:-1])
    return pair is not None and run[-1] in works[2] and told_next(works, wish, pair, run[-1]) == "out"


def told_alike(works, wish, wire, one, other, deed):
    ones, others = told_course(works, wire, one), told_course(works, wire, other)
    if ones is None or others is None or ones[1] != others[1] or not told_int(deed, 0, works[0] - 1):
        return False
    pair, beside = told_run(works, wish, ones[0]), told_run(works, wish, others[0])
    if pair is None or beside is None:
        return False
    return told_good(works, wish, pair, deed) is not None and told_next(works, wish, beside, deed) == "out"


def told_is_span(works, wish, spans, thing):
    """Whether any value is one of the SPANS, of integers alone."""
    if type(thing) is not tuple or len(thing) != 4 or type(thing[0]) is not tuple or type(thing[2]) is not tuple:
        return False
    return all(type(part) is int for part in thing[0] + thing[1:2] + thing[2] + thing[3:]) and thing in spans


def told_kept(works, wish, wire, table):
    spans = told_spans(works, wish, wire)
    if type(table) is not tuple:
        return False
    for couple in table:
        if type(couple) is not tuple or len(couple) != 2 or not all(told_is_span(works, wish, spans, span) for span in couple):
            return False
    first = (told_start(works), 0, (), 0)
    if not told_ascending(table) or (first, first) not in table:
        return False
    lot = set(table)
    moves = {span: told_moves(works, wish, wire, span) for span in spans}
    for one, two in table:
        for _, heard, target in moves[one]:
            if heard is None and (target, two) not in lot:
                return False
            if heard is not None and any(deed == heard and (target, other) not in lot for _, deed, other in moves[two]):
                return False
        if any(heard is None and (one, target) not in lot for _, heard, target in moves[two]):
            return False
        if told_clash(works, wish, one, two) or any(deed in works[2] for span in (one, two) for deed in told_outs(works, wish, span[:2])):
            return False
    return True


def cases(seed, many, most=16, part=0.7):
    """WORKS, WISHES and WIRES by chance with few SPANS; about half of them cannot be kept."""
    chance = chance_of(seed)
    found = {True: 0, False: 0}
    while sum(found.values()) < many:
        works = some_works(chance, chance.randint(1, 3), chance.randint(1, 2), most=3, part=0.8)
        if chance.random() < 0.7:
            works = works[:2] + ((),) + works[3:]
        wish = some_wish(chance, works[0], 3, part)
        wire = some_wire(chance, works)
        if 2 <= len(told_spans(works, wish, wire, most)) <= most:
            due = told_keeps(works, wish, wire)
            if found[due] < many / 2 or not due:
                if due and found[True] > found[False] + 20:
                    continue
                found[due] += 1
                yield works, wish, wire


class Kept(unittest.TestCase):
    def test_just_one(self):
        # The post must hear of the 0 at once to forbid the next one.
        self.assertIs(can_keep_over(ONCE, JUST_ONE, ((0,), 0, 0)), True)
        for wire in (((0,), 1, 0), ((0,), 0, 1), ((0,), 2, 2), ((), 0, 0), ((1,), 0, 0)):
            self.assertIs(can_keep_over(ONCE, JUST_ONE, wire), False, wire)
            self.assertEqual(wire_paper(ONCE, JUST_ONE, wire)[0], "alike")
        self.assertEqual(keeping_wires(ONCE, JUST_ONE, (0,)), ((0, 0),))
        self.assertEqual(keeping_wires(ONCE, JUST_ONE, (1,)), ())
        self.assertEqual(keeping_wires(ONCE, (((0, 0),), (0,)), ()), tuple(itertools.product(range(3), repeat=2)))

    def test_a_free_deed(self):
        works = ONCE[:2] + ((0,),) + ONCE[3:]
        for wire in (((0,), 0, 0), ((0, 1), 2, 2)):
            self.assertIs(can_keep_over(works, JUST_ONE, wire), False)
            self.assertEqual(wire_paper(works, JUST_ONE, wire)[0], "free")
            self.assertEqual(check_wire(works, JUST_ONE, wire, wire_paper(works, JUST_ONE, wire)), "free")
        self.assertEqual(keeping_wires(works, JUST_ONE, (0,)), ())

    def test_a_delay_that_does_no_harm(self):
        # The second 0 is to be forbidden, once one of the two deeds ahead of it is heard.
        works = (2, (((0, 1), (((0, 1),), ((1, 2),), ((0, 0),))),), (), ((0,),))
        wish = (((0, 1), (2, 1), (2, 2)), (0, 1))
        self.assertEqual(keeping_wires(works, wish, (0, 1)), ((0, 0), (0, 1), (1, 0)))
        self.assertEqual(keeping_wires(works, wish, (0,)), ((0, 0),))
        self.assertEqual(keeping_wires(works, wish, (1,)), ((0, 0),))
        for delay, loss in itertools.product(range(3), repeat=2):
            self.assertIs(can_keep_over(works, wish, ((0, 1), delay, loss)), delay + loss <= 1)

    def test_as_much_delay_or_loss_as_may_be(self):
        for works, wish, due in (
                ((3, (((0, 1), (((0, 2), (1, 1)), ((1, 0),), ((1, 1),))),), (), ((),)), (((2, 2, 2), (1, 2, 1), (1, 0, 1)), (0, 2)), ((0, 0), (1, 0), (2, 0))),
                ((2, (((0, 1), (((0, 0), (1, 1)), ((1, 2),), ((1, 0),))),), (), ((),)), (((0, 2), (0, 1), (1, 2)), (0, 2)),
                 ((0, 0), (0, 1), (0, 2), (1, 0), (2, 0))),
                # With DELAY 3 it could be kept as well.
                ((3, (((0, 1, 2), (((0, 1),), ((1, 0), (2, 1)), ((0, 0), (2, 3)), ())), ((1, 2), (((1, 1), (2, 0)), ((1, 0),)))), (), ((2, 3), ())),
                 (((0, 1, 0), (1, 1, 2), (1, 0, 0)), (0, 1)), ((0, 0), (0, 1), (1, 0), (1, 1), (2, 0)))):
            self.assertEqual(keeping_wires(works, wish, (0, 1)), due)
            for delay, loss in itertools.product(range(3), repeat=2):
                self.assertIs(told_keeps(works, wish, ((0, 1), delay, loss)), (delay, loss) in due)

    def test_several_under_way(self):
        # What comes is the oldest one of the deeds under way: 1, and not 0 behind it.
        works = (3, (((0, 1, 2), (((2, 1),), ((0, 1), (1, 0)))),), (), ((0,),))
        wish = (((1, 0, 0), (1, 1, 2), (1, 2, 0)), (0, 1))
        paper = wire_paper(works, wish, ((0, 1, 2), 2, 0))
        self.assertEqual(paper[0], "alike")
        self.assertEqual(told_check(works, wish, ((0, 1, 2), 2, 0), paper), ("ok", "alike"))
        chance = chance_of(317)
        many = 0
        while many < 60:
            works = some_works(chance, chance.randint(2, 3), 1, most=4, part=0.7)
            works = works[:2] + ((),) + works[3:]
            wish = some_wish(chance, works[0], 3, 0.6)
            wire = (tuple(range(works[0])), 2, chance.choice([0, 0, 1]))
            if len(told_spans(works, wish, wire, 60)) <= 60:
                paper = wire_paper(works, wish, wire)
                if paper[0] == "alike":
                    self.assertEqual(told_check(works, wish, wire, paper), ("ok", "alike"), (works, wish, wire))
                    many += 1

    def test_by_chance(self):
        seen = {}
        for works, wish, wire in cases(310, 300):
            due = told_keeps(works, wish, wire)
            self.assertIs(can_keep_over(works, wish, wire), due)
            paper = wire_paper(works, wish, wire)
            seen[paper[0]] = seen.get(paper[0], 0) + 1
            self.assertEqual(paper[0] == "kept", due)
            self.assertEqual(paper[0] == "free", told_free_out(works, wish))
            self.assertEqual(check_wire(works, wish, wire, paper), paper[0])
            self.assertEqual(told_check(works, wish, wire, paper), ("ok", paper[0]))
            if due:
                self.assertEqual(set(paper[1]), told_related(works, wish, wire))
            if wire[1:] == (0, 0):
                self.assertIs(can_keep_by(works, wish, wire[0]), due)
        self.assertTrue(len(seen) == 3 and min(seen.values()) > 20, seen)

    def test_no_two_courses_by_the_words(self):
        # Of short COURSES: if the WISH can be kept no two with the same NEWS clash.
        for works, wish, wire in cases(311, 60, 10):
            courses = {(): ((), ())}
            layer = [()]
            for _ in range(4):
                longer = [course + (event,) for course in layer for event in all_events(works[0])]
                layer = [course for course in longer if told_course(works, wire, course) is not None
                         and told_run(works, wish, told_course(works, wire, course)[0]) is not None]
                courses.update({course: told_course(works, wire, course)[:2] for course in layer})
            deeds = {}
            for run, news in courses.values():
                pair = told_run(works, wish, run)
                for deed in range(works[0]):
                    if told_do(works, pair[0], deed) is not None:
                        deeds.setdefault((news, deed), set()).add(told_good(works, wish, pair, deed) is not None)
            if any(len(kinds) > 1 for kinds in deeds.values()):
                self.assertIs(can_keep_over(works, wish, wire), False)
            elif not can_keep_over(works, wish, wire) and wire_paper(works, wish, wire)[0] == "alike":
                self.assertTrue(any(len(course) > 4 for course in wire_paper(works, wish, wire)[1:3]))

    def test_less_delay_and_loss(self):
        many = {}
        for works, wish, wire in cases(312, 200, 60):
            if outcome(can_keep_over, works, wish, (wire[0], 2, 2)) == ("TooMany", 60):
                self.assertEqual(outcome(keeping_wires, works, wish, wire[0]), ("TooMany", 60))
                continue
            due = tuple(pair for pair in itertools.product(range(3), repeat=2) if told_keeps(works, wish, (wire[0],) + pair))
            found = keeping_wires(works, wish, wire[0])
            self.assertEqual(found, due)
            many[len(found)] = many.get(len(found), 0) + 1
            for delay, loss in found:
                for less in itertools.product(range(delay + 1), range(loss + 1)):
                    self.assertIn(less, found)
        self.assertTrue(len(many) > 2, many)

    def test_each_greater_sight_may_keep_more(self):
        self.assertEqual([sight for sight in all_sights(3) if can_keep_over(FORK, ONE_WAY, (sight, 0, 0))],
                         [sight for sight in all_sights(3) if can_keep_by(FORK, ONE_WAY, sight)])


class Bounds(unittest.TestCase):
    def test_60_and_61(self):
        self.assertIs(can_keep_over(*SPANS60), told_keeps(*SPANS60))
        paper = wire_paper(*SPANS60)
        self.assertEqual(check_wire(*SPANS60, paper), paper[0])
        for call, more in ((can_keep_over, ()), (wire_paper, ()), (check_wire, (None,)), (check_wire, (paper,)), (paper_for_less, (SPANS61[2], None))):
            self.assertEqual(outcome(call, *SPANS61, *more), ("TooMany", 60), call)
        self.assertEqual(outcome(keeping_wires, *SPANS61[:2], SPANS61[2][0]), ("TooMany", 60))
        self.assertEqual(outcome(check_wire, *SPANS61[:2], ((0, 1), 2, 3), None), ("BadWire", "loss"))

    def test_more_spans_over_one_of_the_wires(self):
        self.assertEqual(outcome(can_keep_over, *SPANS60)[0], "ok")
        self.assertGreater(len(told_spans(*SPANS60[:2], SPANS60[2][:1] + (2, 2))), 60)
        self.assertEqual(outcome(keeping_wires, *SPANS60[:2], SPANS60[2][0]), ("TooMany", 60))

    def test_errors_of_keeping_wires(self):
        for sight in junk() + [(0, 1, 2, 3), (1, 0), (0, 0), (3,), [0], (True,)]:
            if not (told_lot(sight, 3) and len(sight) <= 3):
                self.assertEqual(outcome(keeping_wires, FORK, ONE_WAY, sight), ("OutOfPlace",), sight)
        four = (4, (((), ((),)),), (), ((),))
        self.assertEqual(outcome(keeping_wires, four, (((0,) * 4,), (0,)), (0, 1, 2, 3)), ("OutOfPlace",))
        self.assertEqual(len(keeping_wires(four, (((0,) * 4,), (0,)), (1, 2, 3))), 9)
        self.assertEqual(outcome(keeping_wires, *SPANS61[:2], (0, 1, 2, 3)), ("OutOfPlace",))
        self.assertEqual(outcome(keeping_wires, MANY, None, None), ("TooMany", 24))
        self.assertEqual(outcome(keeping_wires, FORK, None, None), ("BadWish", "form"))

    def test_wires_that_are_none(self):
        for thing in junk() + mutations(((0, 2), 1, 2)):
            part = told_wire(FORK, thing)
            if part is not None:
                for call, more in ((can_keep_over, ()), (wire_paper, ()), (check_wire, (None,)), (paper_for_less, (None, None)),
                                   (paper_for_sight, (None,))):
                    self.assertEqual(outcome(call, FORK, ONE_WAY, thing, *more), ("BadWire", part), thing)
                self.assertEqual(outcome(paper_for_less, FORK, ONE_WAY, ((0,), 0, 0), thing, None), ("BadWire", part), thing)


class Papers(unittest.TestCase):
    def test_no_papers(self):
        for thing in no_papers({"kept": 1, "free": 1, "alike": 3}):
            self.assertEqual(outcome(check_wire, FORK, ONE_WAY, ((0,), 1, 1), thing), ("BadPaper", "form"), thing)

    def test_kept_of_one_span(self):
        first = ((0,), 0, (), 0)
        for table, is_so in ((((first, first),), True), ((), False), (((first, first),) * 2, False), ([(first, first)], False), ((first,), False),
                             (((first, ((0,), 0, (), False)),), False), (((((0.0,), 0, (), 0), first),), False), (((first, first, first),), False),
                             ((([(0,), 0, (), 0], first),), False), ((((([],), 0, (), 0), first),), False), (None, False), ((Odd(),), False)):
            due = ("ok", "kept") if is_so else ("BadPaper", "kept")
            self.assertEqual(outcome(check_wire, STILL, (((0,),), (0,)), ((0,), 1, 1), ("kept", table)), due, table)

    def test_alike(self):
        wire = ((0,), 1, 0)
        for one, other, deed, is_so in (((), (("done", 0),), 0, True), ((("done", 1),), (("done", 0), ("done", 1)), 0, True),
                                        ((), (("done", 0), ("come", 0)), 0, False), ((("done", 0),), (), 0, False), ((), (), 0, False),
                                        ((), (("done", 0),), 1, False), ((), (("done", 0), ("done", 0)), 0, False), ((), (("done", 0),), True, False),
                                        ((), (("done", False),), 0, False), ((), [("done", 0)], 0, False), (None, None, None, False),
                                        ((), (("lost", 0),), 0, False), ((), (("done", 0),), 2, False),
                                        ((("done", 1),) * 3000, (("done", 0),) + (("done", 1),) * 3000, 0, True)):
            due = ("ok", "alike") if is_so else ("BadPaper", "alike")
            self.assertEqual(outcome(check_wire, ONCE, JUST_ONE, wire, ("alike", one, other, deed)), due, (one, other, deed))

    def test_free(self):
        works = ONCE[:2] + ((0,),) + ONCE[3:]
        for run, is_so in (((0, 0), True), ((0, 1, 1, 0), True), ((0,), False), ((), False), ((0, 0, 0), False), ((0, 1), False), ([0, 0], False),
                           ((0, False), False), ((0.0, 0), False), (None, False), ((0,) + (1,) * 3000 + (0,), True), ((0, 2), False)):
            due = ("ok", "free") if is_so else ("BadPaper", "free")
            self.assertEqual(outcome(check_wire, works, JUST_ONE, ((1,), 0, 2), ("free", run)), due, run)
        self.assertEqual(outcome(check_wire, ONCE, JUST_ONE, ((0,), 0, 0), ("free", (0, 0))), ("BadPaper", "free"))

    def test_papers_that_are_otherwise(self):
        chance = chance_of(313)
        many = {}
        for works, wish, wire in cases(314, 100, 8):
            hold_papers(self, check_wire, told_check, (works, wish, wire), wire_paper(works, wish, wire), chance, 120, many)
        self.assertTrue(set(many) >= {"alike", "free"}, many)

    def test_tables_with_more_and_fewer_couples(self):
        chance = chance_of(315)
        many = {"ok": 0, "BadPaper": 0}
        for works, wish, wire in cases(316, 120, 8):
            table = tuple(sorted(told_related(works, wish, wire)))
            spans = sorted(told_spans(works, wish, wire))
            for _ in range(12):
                other = set(table) | {(chance.choice(spans), chance.choice(spans)) for _ in range(chance.randint(0, 2))}
                if chance.random() < 0.4:
                    other.remove(chance.choice(sorted(other)))
                thing = ("kept", tuple(sorted(other)))
                due = told_check(works, wish, wire, thing)
                many[due[0]] += 1
                self.assertEqual(outcome(check_wire, works, wish, wire, thing), due)
            full = ("kept", tuple(itertools.product(spans, spans)))
            self.assertEqual(outcome(check_wire, works, wish, wire, full), told_check(works, wish, wire, full))
        self.assertGreater(min(many.values()), 100)

    def test_papers_of_others(self):
        chance = chance_of(317)
        held = 0
        for works, wish, wire in cases(318, 150, 10):
            paper = wire_paper(works, wish, wire)
            for other in (some_wire(chance, works), wire[:1] + some_wire(chance, works)[1:]):
                for args in ((works, wish, other), (works, some_wish(chance, works[0], 3), wire)):
                    due = told_check(*args, paper)
                    held += due[0] == "ok"
                    self.assertEqual(outcome(check_wire, *args, paper), due)
        self.assertGreater(held, 30)

    def test_spans_that_do_not_come(self):
        # Deed 1 never can be done, so it is never under way.
        works = (2, (((0,), (((0, 0),),)),), (), ((0,),))
        wish = (((0, 0),), (0,))
        paper = wire_paper(works, wish, ((0, 1), 1, 0))
        self.assertEqual(check_wire(works, wish, ((0, 1), 1, 0), paper), "kept")
        span = ((0,), 0, (1,), 0)
        table = tuple(sorted(set(paper[1]) | {(span, span)}))
        self.assertEqual(outcome(check_wire, works, wish, ((0, 1), 1, 0), ("kept", table)), ("BadPaper", "kept"))


class PapersForLess(unittest.TestCase):
    def test_less(self):
        many = 0
        for works, wish, wire in cases(319, 160, 30):
            paper = wire_paper(works, wish, wire)
            for delay, loss in itertools.product(range(3), repeat=2):
                less = (wire[0], delay, loss)
                if delay > wire[1] or loss > wire[2]:
                    self.assertEqual(outcome(paper_for_less, works, wish, wire, less, paper), ("OutOfPlace",))
                elif paper[0] != "kept":
                    self.assertEqual(outcome(paper_for_less, works, wish, wire, less, paper), ("BadPaper", "form"))
                else:
                    found = paper_for_less(works, wish, wire, less, paper)
                    spans = told_spans(works, wish, less)
                    self.assertEqual(found, ("kept", tuple(pair for pair in paper[1] if set(pair) <= spans)))
                    self.assertEqual(check_wire(works, wish, less, found), "kept")
                    many += less != wire
        self.assertGreater(many, 50)

    def test_the_same_wire(self):
        wire = ((0,), 0, 0)
        paper = wire_paper(ONCE, JUST_ONE, wire)
        self.assertEqual(paper_for_less(ONCE, JUST_ONE, wire, wire, paper), paper)

    def test_another_sight(self):
        wire = ((0,), 1, 1)
        for less in (((), 1, 1), ((0, 1), 0, 0), ((1,), 0, 0), ((0,), 2, 0), ((0,), 0, 2)):
            self.assertEqual(outcome(paper_for_less, ONCE, (((0, 0),), (0,)), wire, less, None), ("OutOfPlace",))

    def test_bad_papers(self):
        wire = ((0,), 1, 1)
        wish = (((0, 0),), (0,))
        paper = wire_paper(ONCE, wish, wire)
        for thing in (None, (), ("kept",), [paper], ("Kept", paper[1]), ("kept", paper[1], ())):
            self.assertEqual(outcome(paper_for_less, ONCE, wish, wire, wire, thing), ("BadPaper", "form"))
            self.assertEqual(outcome(paper_for_sight, ONCE, wish, ((0,), 0, 0), thing), ("BadPaper", "form"))
        for thing in (("kept", ()), ("kept", paper[1][1:]), ("kept", paper[1][:-1]), ("kept", None)):
            self.assertEqual(outcome(paper_for_less, ONCE, wish, wire, wire, thing), ("BadPaper", "kept"))
            self.assertEqual(outcome(paper_for_sight, ONCE, wish, ((0,), 0, 0), thing), ("BadPaper", "kept"))
        self.assertEqual(outcome(paper_for_less, ONCE, wish, wire, wire, ("free", (0,))), ("BadPaper", "free"))
        self.assertEqual(outcome(paper_for_less, ONCE, wish, wire, wire, ("alike", (), (), 0)), ("BadPaper", "alike"))
        # One that holds, and has another word.
        alike = wire_paper(ONCE, JUST_ONE, wire)
        self.assertEqual(alike[0], "alike")
        self.assertEqual(outcome(paper_for_less, ONCE, JUST_ONE, wire, wire, alike), ("BadPaper", "form"))
        with self.assertRaises(BadPaper):
            paper_for_sight(ONCE, JUST_ONE, ((), 0, 0), wire_paper(ONCE, JUST_ONE, ((), 0, 0)))

    def test_sight(self):
        many = 0
        for works, wish, wire in cases(320, 200, 12):
            paper = wire_paper(works, wish, wire)
            if wire[1:] != (0, 0):
                self.assertEqual(outcome(paper_for_sight, works, wish, wire, paper), ("OutOfPlace",))
            elif paper[0] != "kept":
                self.assertEqual(outcome(paper_for_sight, works, wish, wire, paper), ("BadPaper", "form"))
            else:
                found = paper_for_sight(works, wish, wire, paper)
                self.assertEqual(found, ("kept", tuple((one[:2], two[:2]) for one, two in paper[1])))
                self.assertEqual(outcome(check_sight, works, wish, wire[0], found), ("ok", "kept"))
                many += 1
        self.assertGreater(many, 8)

    def test_sight_with_more_standings_than_12(self):
        # Twelve is a bound of the calls on sight alone.
        wish = (((0, 0, 0),), (0,))
        paper = wire_paper(CUBE, wish, ((0,), 0, 0))
        found = paper_for_sight(CUBE, wish, ((0,), 0, 0), paper)
        self.assertEqual((found[0], len(found[1])), ("kept", len(paper[1])))
        self.assertEqual(outcome(check_sight, CUBE, wish, (0,), found), ("TooMany", 12))

    def test_order_of_errors(self):
        self.assertEqual(outcome(paper_for_less, None, None, None, None, None), ("BadWorks", "form"))
        self.assertEqual(outcome(paper_for_less, RING, None, None, None, None), ("BadWish", "form"))
        self.assertEqual(outcome(paper_for_less, FORK, ONE_WAY, None, None, None), ("BadWire", "form"))
        self.assertEqual(outcome(paper_for_less, *SPANS61, ((0, 1), 0, 3), None), ("BadWire", "loss"))
        self.assertEqual(outcome(paper_for_less, *SPANS61, ((0,), 0, 0), None), ("OutOfPlace",))
        self.assertEqual(outcome(paper_for_less, *SPANS61, ((0, 1), 0, 0), None), ("TooMany", 60))
        self.assertEqual(outcome(paper_for_sight, *SPANS61, None), ("OutOfPlace",))
        self.assertTrue(told_row((0,), 1))


if __name__ == "__main__":
    unittest.main()
