"""[80], [81] WIRES, events, COURSES, NEWS, what may be, and the SPANS that come: worksward/wires.py."""

import itertools
import unittest

from common import (CUBE, MANY, RING, SIX, SPANS60, SPANS61, STILL, TRAP, Equal, Odd, all_events, chance_of, junk, mutations, outcome, some_wire,
                    some_wish, some_works, told_course, told_event, told_look, told_place, told_places, told_row, told_spans,
                    told_start, told_wire, told_wished)
from worksward.wires import is_course, may_be, need_wire, news_of, run_of, spans

ALL2 = (((0, 0),), (0,))
# To and fro between two places by deed 0, round by deed 1 at the first one.
SWING = (2, (((0, 1), (((0, 1), (1, 0)), ((0, 0),))),), (), ((0,),))
# Three deeds that can be done all the time at each of two places, which deed 2 changes.
BUSY = (3, (((0, 1, 2), (((0, 0), (1, 0), (2, 1)), ((0, 1), (1, 1), (2, 0)))),), (), ((0,),))
# Four deeds.
FOUR = (4, (((0, 1, 2, 3), (((0, 0), (1, 0), (2, 0), (3, 0)),)),), (), ((0,),))


def done(*deeds):
    return tuple(("done", deed) for deed in deeds)


def grown(works, wire, lot):
    """All that comes from a lot of places, WAYS and GONE without anything heard."""
    while True:
        more = set()
        for at in lot:
            for event in all_events(works[0]):
                found = told_event(works, wire, at, event)
                if found is not None and found[1] is None:
                    more.add(found[0])
        if more <= lot:
            return lot
        lot = lot | more


def told_may_be(works, wire, news):
    """The places that may be by NEWS, () of such as no COURSE has."""
    lot = grown(works, wire, {(told_start(works), (), 0)})
    for deed in news:
        after = set()
        for at in lot:
            for event in all_events(works[0]):
                found = told_event(works, wire, at, event)
                if found is not None and found[1] == deed:
                    after.add(found[0])
        lot = grown(works, wire, after)
    return tuple(sorted({at[0] for at in lot}))


def told_courses(works, wire, most):
    """All COURSES of at most so many events."""
    longest = [()]
    found = [()]
    for _ in range(most):
        longest = [course + (event,) for course in longest for event in all_events(works[0])
                   if told_course(works, wire, course + (event,)) is not None]
        found += longest
    return found


class Wires(unittest.TestCase):
    def test_what_is_one(self):
        for sight in ((), (0,), (3,), (0, 1), (1, 2, 3)):
            for delay, loss in itertools.product(range(3), repeat=2):
                wire = (sight, delay, loss)
                self.assertIs(need_wire(FOUR, wire), wire)

    def test_parts(self):
        for thing, part in ((None, "form"), ((), "form"), (((0,), 0), "form"), (((0,), 0, 0, 0), "form"), ([(0,), 0, 0], "form"),
                            ("abc", "form"), ((0, 0, 0), "sight"), (([0], 0, 0), "sight"), (((0, 1, 2, 3), 0, 0), "sight"),
                            (((1, 0), 0, 0), "sight"), (((0, 0), 0, 0), "sight"), (((4,), 0, 0), "sight"), (((-1,), 0, 0), "sight"),
                            (((True,), 0, 0), "sight"), (((1.0,), 0, 0), "sight"), ((None, None, None), "sight"),
                            (((0,), 3, 0), "delay"), (((0,), -1, 0), "delay"), (((0,), True, 0), "delay"), (((0,), 1.0, 9), "delay"),
                            (((0,), None, None), "delay"), (((0,), 0, 3), "loss"), (((0,), 0, -1), "loss"), (((0,), 2, False), "loss"),
                            (((0,), 2, None), "loss"), (((0,), 0, (0,)), "loss"), ((Equal(), 0, 0), "sight"), (((0,), 0, Equal()), "loss")):
            self.assertEqual(outcome(need_wire, FOUR, thing), ("BadWire", part), thing)
            for call, more in ((is_course, ((),)), (run_of, ((),)), (news_of, ((),)), (may_be, ((),))):
                self.assertEqual(outcome(call, FOUR, thing, *more), ("BadWire", part), thing)
            self.assertEqual(outcome(spans, FOUR, (((0,) * 4,), (0,)), thing), ("BadWire", part), thing)

    def test_mutations(self):
        chance = chance_of(300)
        for thing in junk() + mutations(((0, 2), 1, 2)):
            part = told_wire(FOUR, thing)
            due = ("ok", thing) if part is None else ("BadWire", part)
            self.assertEqual(outcome(need_wire, FOUR, thing), due, thing)
        for works in (RING, STILL, SIX, CUBE):
            for _ in range(30):
                wire = (tuple(sorted(chance.sample(range(6), chance.randint(0, 4)))), chance.randint(0, 3), chance.randint(0, 3))
                part = told_wire(works, wire)
                self.assertEqual(outcome(need_wire, works, wire), ("ok", wire) if part is None else ("BadWire", part))

    def test_order_of_errors(self):
        self.assertEqual(outcome(need_wire, None, None), ("BadWorks", "form"))
        self.assertEqual(outcome(need_wire, MANY, None), ("TooMany", 24))
        self.assertEqual(outcome(spans, RING, None, None), ("BadWish", "form"))
        self.assertEqual(outcome(spans, MANY, None, None), ("TooMany", 24))
        self.assertEqual(outcome(run_of, RING, None, None), ("BadWire", "form"))
        self.assertEqual(outcome(run_of, RING, ((), 0, 0), None), ("OutOfPlace",))


class Courses(unittest.TestCase):
    def test_swing(self):
        wire = ((0,), 1, 1)
        for course, run, news in (((), (), ()), (done(0), (0,), ()), (done(0, 0), (0, 0), (0,)), (done(0) + (("come", 0),), (0,), (0,)),
                                  (done(1), (1,), ()), (done(1, 1, 0), (1, 1, 0), ()), ((("lost", 0),), (0,), ()),
                                  ((("lost", 0),) + done(0) + (("lost", 0),), (0, 0, 0), ()),
                                  (done(0) + (("lost", 0),) + done(1) + (("come", 0),), (0, 0, 1), (0,))):
            self.assertEqual(told_course(SWING, wire, course)[:2], (run, news))
            self.assertIs(is_course(SWING, wire, course), True)
            self.assertEqual(run_of(SWING, wire, course), run)
            self.assertEqual(news_of(SWING, wire, course), news)

    def test_what_is_none(self):
        wire = ((0,), 1, 1)
        for course in ((("come", 0),), (("lost", 1),), (("lost", 0), ("lost", 0)), done(0, 1), done(2), done(-1), done(True), done(False), done(0.0),
                       done(0) + (("come", 1),), done(0) + (("come", 0), ("come", 0)), [("done", 0)], (["done", 0],), ("done", 0),
                       (("done",),), (("done", 0, 0),), (("Done", 0),), (("done", "0"),), (("", 0),), ((None, 0),), ((b"done", 0),),
                       (("done", None),), (("done", (0,)),), (("done", [0]),), (([], 0),), ((Equal(), 0),), (("done", Equal()),), (Odd(),),
                       ((("done", 0),),), (("come", True),), (0, 1), None, "done", {}, (("done", 10 ** 30),), done(0) + ((Equal(), 0),)):
            self.assertIs(is_course(SWING, wire, course), False, course)
            self.assertEqual(outcome(run_of, SWING, wire, course), ("OutOfPlace",), course)
            self.assertEqual(outcome(news_of, SWING, wire, course), ("OutOfPlace",), course)

    def test_losses_in_a_row(self):
        lost, kept = ("lost", 0), ("done", 0)
        for loss in range(3):
            wire = ((0,), 0, loss)
            for course in itertools.product((lost, kept, ("done", 1)), repeat=5):
                rows = "".join({"lost": "l", "done": "d"}[word] for word, deed in course if deed == 0)
                place = told_place(SWING, tuple(deed for _, deed in course))
                self.assertIs(is_course(SWING, wire, course), place is not None and "l" * (loss + 1) not in rows, course)

    def test_delay(self):
        # What is under way stays in turn; more than DELAY is heard.
        wire = ((0, 1), 2, 0)
        self.assertEqual(news_of(BUSY, wire, done(0, 1)), ())
        self.assertEqual(news_of(BUSY, wire, done(0, 1, 1)), (0,))
        self.assertEqual(news_of(BUSY, wire, done(0, 1, 2, 1, 0, 0)), (0, 1, 1))
        self.assertEqual(news_of(BUSY, wire, done(0, 1) + (("come", 0), ("come", 1))), (0, 1))
        self.assertIs(is_course(BUSY, wire, done(0, 1) + (("come", 1),)), False)
        self.assertEqual(news_of(BUSY, ((0, 1), 0, 0), done(0, 1, 2, 1)), (0, 1, 1))
        self.assertIs(is_course(BUSY, ((0, 1), 0, 2), done(0) + (("come", 0),)), False)

    def test_length(self):
        wire = ((0,), 2, 2)
        for many, due in ((400, "ok"), (401, "OutOfPlace"), (3000, "OutOfPlace")):
            course = done(0) * many
            self.assertIs(is_course(SWING, wire, course), True)
            self.assertEqual(outcome(run_of, SWING, wire, course)[0], due)
            self.assertEqual(outcome(news_of, SWING, wire, course)[0], due)
        self.assertEqual(run_of(SWING, wire, done(0) * 400), (0,) * 400)
        self.assertEqual(news_of(SWING, wire, done(0) * 400), (0,) * 398)

    def test_by_chance(self):
        chance = chance_of(301)
        seen = {True: 0, False: 0}
        for _ in range(300):
            works = some_works(chance, chance.randint(1, 3), part=0.8)
            wire = some_wire(chance, works)
            course = ()
            for _ in range(12):
                fits = [event for event in all_events(works[0]) if told_course(works, wire, course + (event,)) is not None]
                events = all_events(works[0]) if not fits or chance.random() < 0.03 else fits
                course += (chance.choice(events),)
                due = told_course(works, wire, course)
                seen[due is not None] += 1
                self.assertIs(is_course(works, wire, course), due is not None)
                if due is None:
                    self.assertEqual(outcome(run_of, works, wire, course), ("OutOfPlace",))
                    self.assertEqual(outcome(news_of, works, wire, course), ("OutOfPlace",))
                    break
                self.assertEqual(run_of(works, wire, course), due[0])
                self.assertEqual(news_of(works, wire, course), due[1])
                self.assertEqual(told_place(works, due[0]), due[2])
        self.assertGreater(min(seen.values()), 30)

    def test_without_delay_and_loss_news_are_looks(self):
        chance = chance_of(302)
        for _ in range(60):
            works = some_works(chance, chance.randint(1, 3), part=0.8)
            wire = some_wire(chance, works)[:1] + (0, 0)
            for course in told_courses(works, wire, 3):
                run = run_of(works, wire, course)
                self.assertEqual(news_of(works, wire, course), told_look(wire[0], run))
                self.assertEqual(course, done(*run))


class News(unittest.TestCase):
    def test_swing(self):
        self.assertEqual(may_be(SWING, ((0,), 0, 0), ()), ((0,),))
        self.assertEqual(may_be(SWING, ((0,), 0, 0), (0,)), ((1,),))
        self.assertEqual(may_be(SWING, ((0,), 1, 0), (0,)), ((0,), (1,)))
        self.assertEqual(may_be(SWING, ((0,), 0, 1), ()), ((0,), (1,)))
        self.assertEqual(may_be(SWING, ((), 0, 0), ()), ((0,), (1,)))
        self.assertEqual(may_be(SWING, ((1,), 2, 2), (1,) * 400), ((0,), (1,)))

    def test_what_no_course_has(self):
        for wire, news in ((((0,), 0, 0), (1,)), (((), 2, 2), (0,)), (((1,), 2, 2), (0,)), (((0, 1), 0, 0), (0, 1)), (((0,), 0, 0), (0,) * 401),
                           (((0,), 2, 2), [0]), (((0,), 2, 2), (True,)), (((0,), 2, 2), (2,)), (((0,), 2, 2), (-1,)), (((0,), 2, 2), (0.0,)),
                           (((0,), 2, 2), None), (((0,), 2, 2), 0), (((0,), 2, 2), ((0,),)), (((0,), 2, 2), "0"), (((0,), 2, 2), ([],))):
            self.assertEqual(outcome(may_be, SWING, wire, news), ("OutOfPlace",), (wire, news))
        self.assertEqual(outcome(may_be, STILL, ((0,), 2, 2), (0,)), ("OutOfPlace",))
        self.assertEqual(may_be(STILL, ((0,), 2, 2), ()), ((0,),))
        # Deed 0 can be done once at most behind each 1.
        works = (2, (((0, 1), (((0, 1),), ((1, 0),))),), (), ((0,),))
        self.assertEqual(outcome(may_be, works, ((0,), 0, 0), (0, 0))[0], "ok")
        self.assertEqual(outcome(may_be, works, ((0, 1), 0, 0), (0, 0)), ("OutOfPlace",))
        self.assertEqual(may_be(works, ((0, 1), 0, 1), (0, 0)), ((0,), (1,)))
        self.assertEqual(outcome(may_be, works, ((0, 1), 0, 1), (0, 0, 0, 1, 1, 1))[0], "ok")
        self.assertEqual(outcome(may_be, works, ((0, 1), 2, 0), (0, 0)), ("OutOfPlace",))

    def test_news_of_400_deeds(self):
        self.assertEqual(may_be(BUSY, ((0, 1, 2), 2, 2), (0, 1, 2, 2) * 100), ((0,), (1,)))
        self.assertEqual(may_be(BUSY, ((0, 1, 2), 0, 0), (0, 1, 2, 2) * 100), ((0,),))
        self.assertEqual(outcome(may_be, BUSY, ((0, 1, 2), 2, 2), (0, 1, 2, 2) * 100 + (0,)), ("OutOfPlace",))

    def test_by_chance(self):
        chance = chance_of(303)
        none = 0
        for _ in range(250):
            works = some_works(chance, chance.randint(1, 4), part=0.7)
            wire = some_wire(chance, works)
            news = ()
            for _ in range(5):
                due = told_may_be(works, wire, news)
                none += not due
                self.assertEqual(outcome(may_be, works, wire, news), ("ok", due) if due else ("OutOfPlace",), (works, wire, news))
                if not due:
                    break
                news += (chance.choice(wire[0] if wire[0] and chance.random() < 0.9 else range(works[0])),)
        self.assertGreater(none, 20)

    def test_by_the_words(self):
        # All places at which short COURSES with these NEWS end may be.
        chance = chance_of(304)
        for _ in range(40):
            works = some_works(chance, 2, 1, most=3, part=0.8)
            wire = some_wire(chance, works)
            ends = {}
            for course in told_courses(works, wire, 4):
                _, news, place = told_course(works, wire, course)
                ends.setdefault(news, set()).add(place)
            for news, lot in ends.items():
                self.assertLessEqual(lot, set(may_be(works, wire, news)))

    def test_no_fewer_places_by_more_delay_and_loss(self):
        chance = chance_of(305)
        for _ in range(60):
            works = some_works(chance, 2, part=0.8)
            sight = some_wire(chance, works)[0]
            news = tuple(chance.choice(sight) for _ in range(3)) if sight else ()
            lots = {}
            for delay, loss in itertools.product(range(3), repeat=2):
                found = outcome(may_be, works, (sight, delay, loss), news)
                lots[delay, loss] = set(found[1]) if found[0] == "ok" else set()
            for delay, loss in itertools.product(range(2), repeat=2):
                self.assertLessEqual(lots[delay, loss], lots[delay + 1, loss])
                self.assertLessEqual(lots[delay, loss], lots[delay, loss + 1])

    def test_nothing_is_too_many(self):
        # No WISH is passed, so 60 is no bound here.
        self.assertEqual(len(may_be(CUBE, ((0, 1, 2), 2, 2), ())), 24)
        self.assertGreater(len(told_spans(CUBE, (((0, 0, 0),), (0,)), ((0, 1, 2), 2, 2), 100)), 60)


class Spans(unittest.TestCase):
    def test_swing(self):
        self.assertEqual(spans(SWING, ALL2, ((0,), 0, 0)), (((0,), 0, (), 0), ((1,), 0, (), 0)))
        self.assertEqual(spans(SWING, ALL2, ((1,), 1, 0)), (((0,), 0, (), 0), ((0,), 0, (1,), 0), ((1,), 0, (), 0), ((1,), 0, (1,), 0)))
        self.assertEqual(spans(STILL, (((0,),), (0,)), ((0,), 2, 2)), (((0,), 0, (), 0),))

    def test_just_wished_runs(self):
        never_1 = (((0, 1), (1, 1)), (0,))
        self.assertEqual(spans(SWING, never_1, ((1,), 1, 0)), (((0,), 0, (), 0), ((1,), 0, (), 0)))

    def test_60_and_61(self):
        self.assertEqual(len(told_spans(*SPANS60)), 60)
        self.assertEqual(spans(*SPANS60), tuple(sorted(told_spans(*SPANS60))))
        self.assertEqual(len(told_spans(*SPANS61)), 61)
        self.assertEqual(outcome(spans, *SPANS61), ("TooMany", 60))
        self.assertEqual(outcome(spans, *SPANS61[:2], SPANS61[2][:2] + (1,))[0], "ok")

    def test_by_chance(self):
        chance = chance_of(306)
        many = 0
        for _ in range(250):
            works = some_works(chance, chance.randint(1, 4), part=0.8)
            wish = some_wish(chance, works[0], 4, 0.6)
            wire = some_wire(chance, works)
            due = told_spans(works, wish, wire, 61)
            many += len(due) > 60
            self.assertEqual(outcome(spans, works, wish, wire), ("ok", tuple(sorted(due))) if len(due) <= 60 else ("TooMany", 60))
        self.assertGreater(many, 5)

    def test_by_the_words(self):
        chance = chance_of(307)
        for _ in range(30):
            works = some_works(chance, 2, 1, most=2, part=0.8)
            wish = some_wish(chance, 2, 3, 0.6)
            wire = some_wire(chance, works)
            found = outcome(spans, works, wish, wire)
            if found[0] == "ok":
                standings = {span[:2] for span in found[1]}
                for course in told_courses(works, wire, 4):
                    run, _, place = told_course(works, wire, course)
                    if told_wished(wish, run):
                        self.assertIn(place, {pair[0] for pair in standings})
                for place, state, way, gone in found[1]:
                    self.assertIn(place, told_places(works))
                    self.assertIn(state, wish[1])
                    self.assertTrue(told_row(way, 2, 0, wire[1]) and set(way) <= set(wire[0]) and 0 <= gone <= wire[2])

    def test_too_many_behind_errors_of_arguments(self):
        wide = (((0, 0, 0),), (0,))
        self.assertEqual(outcome(spans, CUBE, wide, ((0, 1, 2), 2, 2)), ("TooMany", 60))
        self.assertEqual(outcome(spans, CUBE, wide, ((0, 1, 2), 2, 3)), ("BadWire", "loss"))
        self.assertEqual(len(spans(CUBE, wide, ((), 2, 2))), 24)
        self.assertEqual(len(spans(TRAP, (((0, 0, 0),), (0,)), ((), 0, 0))), 4)


if __name__ == "__main__":
    unittest.main()
