"""[40], [41], [44] LOOKS of RUNS by SIGHTS, and ESTIMATES: worksward/sights.py."""

import itertools
import unittest

from common import (CUBE, MANY, RING, SHARED, TRAP, WIDE, chance_of, outcome, some_wish, some_works, told_do, told_next,
                    told_place, told_rows, told_runs, told_standings, told_start, told_state, told_wished)
from worksward.errors import OutOfPlace, TooMany
from worksward.sights import estimate, look_of

ALL2 = (((0, 0),), (0,))
ALL3 = (((0, 0, 0),), (0,))
# Never deed 1 right behind deed 1.
APART = (((0, 1), (0, 2), (2, 2)), (0, 1))
# 4 * 3 places, and 4 * 4.
TWELVE = (2, (((0,), (((0, 1),), ((0, 2),), ((0, 3),), ((0, 0),))), ((1,), (((1, 1),), ((1, 2),), ((1, 0),)))), (), ((), ()))


def told_look(sight, run):
    look = ()
    for deed in run:
        if deed in sight:
            look += (deed,)
    return look


def told_estimate(works, wish, sight, look):
    """What is due: None in the place of the ESTIMATE of what is the LOOK of no RUN, or behind something out."""
    def grown(lot):
        """All pairs to which deeds that are not seen lead, "out" among them."""
        while True:
            more = {told_next(works, wish, pair, deed) for pair in lot - {"out"} for deed in range(works[0])
                    if deed not in sight} - {None}
            if more <= lot:
                return lot
            lot = lot | more
    lot = grown({(told_start(works), 0)})
    for deed in look:
        if "out" in lot or deed not in sight:
            return None
        lot = grown({told_next(works, wish, pair, deed) for pair in lot} - {None})
    return (tuple(sorted(lot - {"out"})), "out" in lot) if lot else None


def cases(seed, many):
    chance = chance_of(seed)
    for _ in range(many):
        works = some_works(chance, chance.randint(1, 3), most=3, part=0.7)
        yield works, some_wish(chance, works[0], chance.randint(2, 4), part=0.6)


def all_sights(deeds):
    return [sight for many in range(deeds + 1) for sight in itertools.combinations(range(deeds), many)]


class Looks(unittest.TestCase):
    def test_seen_deeds_in_turn(self):
        run = (0, 0, 1, 0, 0, 0)
        self.assertEqual(look_of(RING, (), run), ())
        self.assertEqual(look_of(RING, (1,), run), (1,))
        self.assertEqual(look_of(RING, (0,), run), (0, 0, 0, 0, 0))
        self.assertEqual(look_of(RING, (0, 1), run), run)
        self.assertEqual(look_of(TRAP, (1, 2), (2, 2, 0, 1)), (2, 2, 1))
        self.assertEqual(look_of(RING, (0, 1), ()), ())

    def test_by_chance(self):
        for works, _ in cases(70, 60):
            for sight in all_sights(works[0]):
                for row in told_rows(works[0], 4):
                    due = ("OutOfPlace",) if told_place(works, row) is None else ("ok", told_look(sight, row))
                    self.assertEqual(outcome(look_of, works, sight, row), due)

    def test_what_is_no_sight(self):
        for sight in (None, [], [0], (1, 0), (0, 0), (2,), (-1,), (True,), (0.0,), "0", 0, ((),), {0}, {}):
            with self.assertRaises(OutOfPlace):
                look_of(RING, sight, (0,))
            with self.assertRaises(OutOfPlace):
                estimate(RING, ALL2, sight, ())

    def test_what_is_no_run_of_400_deeds(self):
        self.assertEqual(look_of(RING, (1,), (0, 0, 1, 0) * 100), (1,) * 100)
        for run in ((0, 0, 1, 0) * 100 + (0,), (1,), [0], None, (True,), (0.0,), "0", ((0,),)):
            with self.assertRaises(OutOfPlace):
                look_of(RING, (1,), run)

    def test_no_wish_no_bound_on_standings(self):
        self.assertEqual(look_of(CUBE, (2,), (0, 2, 1, 2)), (2, 2))

    def test_order_of_errors(self):
        self.assertEqual(outcome(look_of, None, None, None), ("BadWorks", "form"))
        self.assertEqual(outcome(look_of, MANY, None, None), ("TooMany", 24))
        self.assertEqual(outcome(look_of, RING, None, (1,)), ("OutOfPlace",))


class Estimates(unittest.TestCase):
    def test_what_is_not_seen_may_have_come(self):
        self.assertEqual(estimate(RING, ALL2, (1,), ()), ((((0,), 0), ((1,), 0), ((2,), 0)), False))
        self.assertEqual(estimate(RING, ALL2, (1,), (1,)), ((((0,), 0), ((1,), 0), ((2,), 0)), False))
        self.assertEqual(estimate(RING, ALL2, (0, 1), (0,)), ((((1,), 0),), False))
        self.assertEqual(estimate(RING, ALL2, (0,), (0, 0)), ((((2,), 0),), False))
        self.assertEqual(estimate(RING, ALL2, (), ()), ((((0,), 0), ((1,), 0), ((2,), 0)), False))

    def test_something_is_out(self):
        # Deed 1 is not seen: it may be done twice in a row.
        self.assertEqual(estimate(RING, APART, (0,), (0,)), ((((1,), 0),), False))
        self.assertEqual(estimate(RING, APART, (0,), (0, 0)), ((((2,), 0), ((2,), 1)), True))
        with self.assertRaises(OutOfPlace):
            estimate(RING, APART, (0,), (0, 0, 0))
        # It is seen: behind two of them something is out, though deeds that are not seen come between.
        self.assertEqual(estimate(RING, APART, (1,), (1,)), ((((0,), 0), ((1,), 0), ((2,), 0), ((2,), 1)), False))
        self.assertEqual(estimate(RING, APART, (1,), (1, 1)), ((((0,), 0), ((1,), 0), ((2,), 0), ((2,), 1)), True))
        self.assertEqual(estimate(RING, APART, (0, 1), (0, 0, 1, 1)), ((), True))
        with self.assertRaises(OutOfPlace):
            estimate(RING, APART, (0, 1), (0, 0, 1, 1, 0))

    def test_of_no_run(self):
        for sight, look in (((0, 1), (1,)), ((0, 1), (0, 1)), ((0,), (1,)), ((), (0,)), ((0, 1), (0, 0, 1, 0, 1))):
            with self.assertRaises(OutOfPlace):
                estimate(RING, ALL2, sight, look)
        # A deed that is not seen stands in no LOOK, though by others it could go on.
        with self.assertRaises(OutOfPlace):
            estimate(RING, ALL2, (1,), (0, 0, 1))
        self.assertEqual(estimate(SHARED, (((0,) * 4,), (0,)), (2,), ()),
                         ((((0, 0), 0), ((0, 1), 0), ((1, 0), 0), ((1, 1), 0)), False))
        with self.assertRaises(OutOfPlace):
            estimate(SHARED, (((0,) * 4,), (0,)), (3,), (3,))

    def test_out_at_once(self):
        none = (((1, 1), (1, 1)), (0,))
        self.assertEqual(estimate(RING, none, (1,), ()), ((((0,), 0),), True))
        for look in ((1,), (0,), (1, 1)):
            with self.assertRaises(OutOfPlace):
                estimate(RING, none, (1,), look)
        self.assertEqual(estimate(RING, none, (0,), ()), ((((0,), 0),), False))
        self.assertEqual(estimate(RING, none, (0,), (0,)), ((), True))

    def test_looks_of_400_deeds(self):
        look = (0, 0, 1, 0) * 100
        self.assertEqual(estimate(RING, ALL2, (0, 1), look), ((((0,), 0),), False))
        with self.assertRaises(OutOfPlace):
            estimate(RING, ALL2, (0, 1), look + (0,))
        self.assertEqual(estimate(RING, ALL2, (1,), (1,) * 400)[1], False)
        with self.assertRaises(OutOfPlace):
            estimate(RING, ALL2, (1,), (1,) * 401)
        for look in (None, [], [1], "1", 1, (True,), (1.0,), (2,), (-1,), ("1",), ((1,),), (1, None), ([],), {}):
            with self.assertRaises(OutOfPlace):
                estimate(RING, ALL2, (1,), look)

    def test_by_chance(self):
        seen = {"out": 0, "in": 0, "none": 0}
        for works, wish in cases(71, 150):
            few = len(told_standings(works, wish)) <= 12
            for sight in all_sights(works[0]):
                for look in told_rows(works[0], 3):
                    due = told_estimate(works, wish, sight, look)
                    if due is None:
                        seen["none"] += 1
                        self.assertEqual(outcome(estimate, works, wish, sight, look), ("OutOfPlace",))
                    elif few:
                        seen["out" if due[1] else "in"] += 1
                        self.assertEqual(outcome(estimate, works, wish, sight, look), ("ok", due))
                    else:
                        self.assertEqual(outcome(estimate, works, wish, sight, look), ("TooMany", 12))
        self.assertTrue(min(seen.values()) > 50, seen)

    def test_by_all_short_runs(self):
        """The ESTIMATE straight by its words, as far as short RUNS tell."""
        for works, wish in cases(72, 80):
            runs = told_runs(works, 6)
            for sight in all_sights(works[0]):
                for look in told_rows(works[0], 2):
                    told = outcome(estimate, works, wish, sight, look)
                    if told[0] != "ok":
                        continue
                    alike = [run for run in runs if told_look(sight, run) == look]
                    standing = {(told_place(works, run), told_state(wish, run)) for run in alike if told_wished(wish, run)}
                    self.assertTrue(standing <= set(told[1][0]))
                    self.assertTrue(told[1][1] or all(told_wished(wish, run) for run in alike))
                    if len(told_standings(works, wish)) <= 3 and len(look) < 2:
                        self.assertEqual(standing, set(told[1][0]))
                        self.assertEqual(told[1][1], not all(told_wished(wish, run) for run in alike))

    def test_12_standings_and_13(self):
        self.assertEqual(len(told_standings(TWELVE, ALL2)), 12)
        self.assertEqual(len(estimate(TWELVE, ALL2, (), ())[0]), 12)
        # One STANDING more: the first place comes again in another state.
        more = (2, TWELVE[1], (), ((), ()))
        wish = (((1, 0), (1, 1)), (0, 1))
        self.assertGreater(len(told_standings(more, wish)), 12)
        with self.assertRaises(TooMany) as caught:
            estimate(more, wish, (), ())
        self.assertEqual(caught.exception.most, 12)
        line = (1, (((0,), (((0, 1),), ((0, 2),), ((0, 3),), ((0, 3),))),), (), ((),))
        self.assertEqual(len(told_standings(line, (((0,),), (0,)))), 4)

    def test_13_standings(self):
        # Behind the last one of 4 * 3 places there comes just one more.
        works = (3, (((0, 2), (((0, 1),), ((0, 2),), ((0, 3),), ((2, 3),))),
                     ((1, 2), (((1, 1),), ((1, 2),), ((2, 2),))),
                     ((2,), (((2, 1),), ()))), (), ((), (), ()))
        self.assertEqual(len(told_standings(works, ALL3)), 13)
        self.assertEqual(outcome(estimate, works, ALL3, (), ()), ("TooMany", 12))
        no_2 = (((0, 0, 1), (1, 1, 1)), (0,))
        self.assertEqual(len(told_standings(works, no_2)), 12)
        self.assertEqual(estimate(works, no_2, (0, 1, 2), (0,)), ((((1, 0, 0), 0),), False))
        self.assertEqual(estimate(works, no_2, (0, 1, 2), (0, 0, 0, 1, 1, 2)), ((), True))

    def test_order_of_errors(self):
        # Too many STANDINGS come behind the errors of arguments, of a LOOK that is none as told, too.
        self.assertEqual(outcome(estimate, WIDE, ALL2, (0, 1), (0, 1)), ("TooMany", 12))
        self.assertEqual(outcome(estimate, WIDE, ALL2, None, (0, 1)), ("OutOfPlace",))
        self.assertEqual(outcome(estimate, WIDE, ALL2, (0, 1), None), ("OutOfPlace",))
        self.assertEqual(outcome(estimate, WIDE, ALL2, (0,), (1,)), ("OutOfPlace",))
        self.assertEqual(outcome(estimate, WIDE, (((0, 1), (0, 0)), (0, 1)), (0,), (0, 1)), ("OutOfPlace",))
        few = (((0, 1), (1, 1)), (0,))
        self.assertEqual(outcome(estimate, CUBE, ALL3, (0,), (0, 0)), ("TooMany", 12))
        self.assertEqual(outcome(estimate, WIDE, few, (0, 1), (1, 0)), ("OutOfPlace",))
        self.assertEqual(outcome(estimate, None, None, None, None), ("BadWorks", "form"))
        self.assertEqual(outcome(estimate, RING, None, None, None), ("BadWish", "form"))
        self.assertEqual(outcome(estimate, RING, ALL3, None, None), ("BadWish", "steps"))
        self.assertEqual(outcome(estimate, MANY, None, None, None), ("TooMany", 24))
        self.assertIsNotNone(told_do(RING, (0,), 0))


if __name__ == "__main__":
    unittest.main()
