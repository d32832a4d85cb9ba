"""[11], [12] First RUNS, how many RUNS, places that are still or lost: worksward/goings.py."""

import unittest

from common import (CUBE, RING, SAMPLES, SHARED, SIX, STILL, TRAP, WIDE, chance_of, outcome, some_works, told_all_places,
                    told_do, told_goal, told_place, told_places, told_runs)
from worksward.errors import Nothing, OutOfPlace
from worksward.goings import do_go_on, first_run, lost_places, many_runs, still_places


def told_led(works, place):
    """Whether some GOAL comes from a place."""
    known = {place}
    while True:
        more = {told_do(works, one, deed) for one in known for deed in range(works[0])} - {None}
        if more <= known:
            return any(told_goal(works, one) for one in known)
        known |= more


class Goings(unittest.TestCase):
    def test_first_runs_have_the_fewest_deeds_then_the_least(self):
        self.assertEqual(first_run(RING, (0,)), ())
        self.assertEqual(first_run(RING, (2,)), (0, 0))
        self.assertEqual(first_run(TRAP, (2,)), (2,))
        self.assertEqual(first_run(TRAP, (3,)), (0, 1))
        self.assertEqual(first_run(CUBE, (1, 2, 3)), (0, 1, 1, 2, 2, 2))
        self.assertEqual(first_run(WIDE, (3, 3, 0)), (0, 0, 0, 1, 1, 1))
        # Deed 0 comes to the place by three deeds, 1 by two, the least one of these is (1, 0).
        works = (2, (((0, 1), (((0, 1), (1, 2)), ((0, 2),), ((0, 3), (1, 3)), ())),), (), ((),))
        self.assertEqual(first_run(works, (3,)), (1, 0))

    def test_nothing_of_a_place_that_does_not_come(self):
        works = (1, (((0,), (((0, 0),), ((0, 0),))),), (), ((1,),))
        self.assertEqual(first_run(works, (0,)), ())
        with self.assertRaises(Nothing):
            first_run(works, (1,))
        with self.assertRaises(OutOfPlace):
            first_run(works, (2,))

    def test_first_runs_by_chance(self):
        chance = chance_of(5)
        for _ in range(60):
            works = some_works(chance, most=3)
            runs = told_runs(works, 5)
            for place in told_all_places(works):
                having = [run for run in runs if told_place(works, run) == place]
                if having:
                    self.assertEqual(first_run(works, place), min(having, key=lambda run: (len(run), run)))
                elif place not in told_places(works):
                    self.assertEqual(outcome(first_run, works, place), ("Nothing",))

    def test_how_many_runs(self):
        self.assertEqual([many_runs(RING, length) for length in range(5)], [1, 1, 1, 2, 3])
        self.assertEqual([many_runs(STILL, length) for length in (0, 1, 40)], [1, 0, 0])
        self.assertEqual(many_runs(SIX, 40), 1)
        self.assertEqual(many_runs(CUBE, 40), 3 ** 40)
        self.assertEqual(many_runs(WIDE, 0), 1)
        chance = chance_of(6)
        for works in SAMPLES + tuple(some_works(chance) for _ in range(40)):
            runs = told_runs(works, 5)
            for length in range(6):
                self.assertEqual(many_runs(works, length), sum(len(run) == length for run in runs))

    def test_what_is_no_length(self):
        for length in (-1, 41, True, False, 1.0, "1", None, (), [], 10 ** 999):
            with self.assertRaises(OutOfPlace):
                many_runs(RING, length)

    def test_still_and_lost_places(self):
        self.assertEqual(still_places(TRAP), ((3,),))
        self.assertEqual(lost_places(TRAP), ((3,),))
        self.assertIs(do_go_on(TRAP), False)
        self.assertEqual(still_places(RING), ())
        self.assertEqual(lost_places(RING), ())
        self.assertIs(do_go_on(RING), True)
        self.assertEqual(still_places(STILL), ((0,),))
        self.assertEqual(lost_places(STILL), ((0,),))
        self.assertEqual(len(lost_places(WIDE)), 16)
        self.assertEqual(still_places(WIDE), ())
        self.assertIs(do_go_on(SHARED), True)

    def test_a_still_goal_is_not_lost(self):
        works = STILL[:3] + (((0,),),)
        self.assertEqual(still_places(works), ((0,),))
        self.assertEqual(lost_places(works), ())
        self.assertIs(do_go_on(works), True)

    def test_a_ring_without_a_goal_is_lost_though_not_still(self):
        works = (2, (((0, 1), (((0, 0), (1, 1)), ((0, 2),), ((0, 1),))),), (), ((0,),))
        self.assertEqual(still_places(works), ())
        self.assertEqual(lost_places(works), ((1,), (2,)))
        self.assertIs(do_go_on(works), False)

    def test_places_that_do_not_come_do_not_count(self):
        works = (1, (((0,), (((0, 0),), ())),), (), ((0,),))
        self.assertEqual(still_places(works), ())
        self.assertEqual(lost_places(works), ())
        self.assertIs(do_go_on(works), True)

    def test_all_of_it_by_chance(self):
        chance = chance_of(7)
        seen = {True: 0, False: 0}
        for _ in range(150):
            works = some_works(chance, chance.randint(1, 4), part=0.5)
            known = sorted(told_places(works))
            still = tuple(place for place in known if not any(told_do(works, place, deed) for deed in range(works[0])))
            lost = tuple(place for place in known if not told_led(works, place))
            self.assertEqual(still_places(works), still)
            self.assertEqual(lost_places(works), lost)
            self.assertIs(do_go_on(works), not lost)
            seen[not lost] += 1
        self.assertTrue(seen[True] > 5 and seen[False] > 5)


if __name__ == "__main__":
    unittest.main()
