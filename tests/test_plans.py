"""[14], [15] PLANS, LEAST PLANS, WORKS made of a PLAN, put together, with other names: worksward/plans.py."""

import itertools
import unittest

from common import (CUBE, MANY, RING, SAMPLES, SHARED, SIX, STILL, TRAP, WIDE, chance_of, mutations, outcome, same_kind,
                    some_works, told_do, told_goal, told_int, told_lot, told_place, told_places, told_rows, told_runs,
                    told_start, told_steps, told_tuple, told_works)
from worksward.errors import OutOfPlace, TooMany
from worksward.plans import least_plan, plan, renamed, together, works_of

RING4 = (1, (((0,), (((0, 1),), ((0, 2),), ((0, 3),), ((0, 0),))),), (0,), ((0, 2),))


def told_order(works):
    """The places that come, by their first RUNS."""
    order = [told_start(works)]
    for place in order:
        for deed in range(works[0]):
            after = told_do(works, place, deed)
            if after is not None and after not in order:
                order.append(after)
    return order


def told_plan(works):
    order = told_order(works)
    rows = tuple(tuple((deed, order.index(told_do(works, place, deed))) for deed in range(works[0])
                       if told_do(works, place, deed) is not None) for place in order)
    return (works[0], rows, tuple(k for k, place in enumerate(order) if told_goal(works, place)))


def plan_runs(thing, most):
    """For each row of at most so many deeds that a PLAN goes along whether its end is a GOAL."""
    found = {(): 0}
    longest = {(): 0}
    for _ in range(most):
        longest = {run + (deed,): to for run, number in longest.items() for deed, to in thing[1][number]}
        found.update(longest)
    return {run: number in thing[2] for run, number in found.items()}


def told_kinds(works):
    """How many places that come are parted by rows as long as there are places."""
    order = told_order(works)
    kinds = {place: told_goal(works, place) for place in order}
    for _ in order:
        kinds = {place: (told_goal(works, place),
                         tuple((deed, kinds[told_do(works, place, deed)]) for deed in range(works[0])
                               if told_do(works, place, deed) is not None)) for place in order}
        names = sorted(set(map(repr, kinds.values())))
        kinds = {place: names.index(repr(kind)) for place, kind in kinds.items()}
    return len(set(kinds.values()))


class Plans(unittest.TestCase):
    def test_plans(self):
        self.assertEqual(plan(RING), (2, (((0, 1),), ((0, 2),), ((0, 0), (1, 2))), (2,)))
        self.assertEqual(plan(STILL), (1, ((),), ()))
        self.assertEqual(plan(SIX), (6, (((5, 0),),), (0,)))
        # Numbered by first RUNS: (1,) and (2,) ahead of (0, 1), not by the states.
        self.assertEqual(plan(TRAP), (3, (((0, 1), (2, 2)), ((0, 2), (1, 3)), ((2, 0),), ()), (2,)))
        works = (2, (((0, 1), (((0, 3), (1, 2)), ((0, 1),), ((1, 1),), ())),), (), ((0, 3),))
        self.assertEqual(plan(works), (2, (((0, 1), (1, 2)), (), ((1, 3),), ((0, 3),)), (0, 1)))

    def test_plans_by_chance(self):
        chance = chance_of(12)
        for works in SAMPLES + tuple(some_works(chance, chance.randint(1, 5)) for _ in range(80)):
            self.assertTrue(same_kind(plan(works), told_plan(works)))

    def test_least_plans(self):
        self.assertEqual(least_plan(RING4), (1, (((0, 1),), ((0, 0),)), (0,)))
        self.assertEqual(least_plan(RING), plan(RING))
        self.assertEqual(least_plan(WIDE), (2, (((0, 0), (1, 0)),), ()))
        self.assertEqual(least_plan(STILL), (1, ((),), ()))
        self.assertEqual(len(least_plan(CUBE)[1]), 24)
        # Places that are lost stay, and are one if they go on alike.
        self.assertEqual(least_plan(TRAP), plan(TRAP))
        # The same rows, but not the same GOALS.
        both = (1, (((0,), (((0, 1),), ((0, 0),))),), (), ((0, 1),))
        self.assertEqual(least_plan(both), (1, (((0, 0),),), (0,)))
        # Parted only by what can be done two deeds on.
        far = (2, (((0, 1), (((0, 1), (1, 2)), ((0, 3),), ((0, 0),), ((1, 3),))),), (), ((),))
        self.assertEqual(least_plan(far), (2, (((0, 1), (1, 2)), ((0, 3),), ((0, 0),), ((1, 3),)), ()))

    def test_least_plans_by_chance(self):
        chance = chance_of(13)
        less = 0
        for _ in range(120):
            works = some_works(chance, chance.randint(1, 3), part=0.85)
            least = least_plan(works)
            self.assertEqual(least[0], works[0])
            self.assertEqual(len(least[1]), told_kinds(works))
            less += len(least[1]) < len(told_places(works))
            runs = plan_runs(least, 5)
            self.assertEqual(sorted(runs), sorted(told_runs(works, 5)))
            for run, is_goal in runs.items():
                self.assertEqual(is_goal, told_goal(works, told_place(works, run)))
            if len(least[1]) <= 4:
                # Numbered as they first come.
                self.assertEqual(plan(works_of(least, ())), least)
                self.assertEqual(least_plan(works_of(least, ())), least)
            order = [0]
            for number in order:
                order += [to for to in dict.fromkeys(to for _, to in least[1][number]) if to not in order]
            self.assertEqual(order, list(range(len(least[1]))))
        self.assertGreater(less, 20)


class WorksOf(unittest.TestCase):
    def test_one_machine_that_has_all_deeds(self):
        thing = (3, (((0, 1), (2, 0)), ()), (1,))
        self.assertEqual(works_of(thing, (0, 2)), (3, (((0, 1, 2), thing[1]),), (0, 2), ((1,),)))
        self.assertEqual(works_of((1, ((),), ()), ()), (1, (((0,), ((),)),), (), ((),)))
        self.assertEqual(works_of((6, (((5, 0),),), (0,)), (5,)), (6, (((0, 1, 2, 3, 4, 5), (((5, 0),),)),), (5,), ((0,),)))

    def test_numbers_need_not_come(self):
        thing = (1, ((), ((0, 3),), (), ((0, 1),)), (0, 2))
        self.assertEqual(works_of(thing, (0,)), (1, (((0,), thing[1]),), (0,), ((0, 2),)))
        turned = (2, (((0, 2), (1, 1)), (), ((0, 0),)), ())
        self.assertEqual(plan(works_of(turned, ())), (2, (((0, 1), (1, 2)), ((0, 0),), ()), ()))

    def test_plans_of_4_numbers_and_of_5(self):
        for many in range(1, 7):
            thing = (1, tuple(((0, (k + 1) % many),) for k in range(many)), (0,))
            self.assertEqual(outcome(works_of, thing, ())[0], "ok" if many < 5 else "OutOfPlace")

    def test_what_is_no_plan(self):
        good = (2, (((0, 1),), ((0, 0), (1, 1))), (1,))
        works_of(good, ())
        for thing in (None, (), good[:2], good + ((),), list(good), (0,) + good[1:], (7,) + good[1:], (True,) + good[1:],
                      (1,) + good[1:], (2, (), ()), (2, [()], ()), (2, ([],), ()), (2, (((0, 2),), ()), ()),
                      (2, (((1, 0), (0, 0)),), ()), (2, (((0, 0), (0, 0)),), ()), (2, (((0, False),),), ()),
                      (2, (((2, 0),),), ()), good[:2] + ((1, 0),), good[:2] + ((2,),), good[:2] + ([1],), good[:2] + (1,),
                      good[:2] + ((True,),), (2, (((0, 0, 0),),), ()), (2, ((0, 0),), ()), (2, None, ())):
            with self.assertRaises(OutOfPlace):
                works_of(thing, ())
        for free in (None, [], (2,), (1, 0), (0, 0), (True,), (0.0,), 0, ((),), (-1,)):
            with self.assertRaises(OutOfPlace):
                works_of(good, free)

    def test_plans_that_are_otherwise(self):
        chance = chance_of(14)
        for _ in range(25):
            works = some_works(chance, machines=1)
            good = plan(works)
            for thing in mutations(good, chance, 200):
                holds = (told_tuple(thing, 3, 3) and told_int(thing[0], 1, 6)
                         and told_steps(thing[1], tuple(range(thing[0]))) and told_lot(thing[2], len(thing[1])))
                self.assertEqual(outcome(works_of, thing, ())[0], "ok" if holds else "OutOfPlace", thing)
                if holds:
                    self.assertIsNone(told_works(works_of(thing, ())))


class Together(unittest.TestCase):
    def test_machines_free_and_goals(self):
        one = (2, (((0,), (((0, 0),),)),), (1,), ((0,),))
        two = (2, (((1,), (((1, 1),), ())), ((), ((),))), (0,), ((1,), ()))
        self.assertEqual(together(one, two), (2, one[1] + two[1], (0, 1), ((0,), (1,), ())))
        self.assertEqual(together(two, one), (2, two[1] + one[1], (0, 1), ((1,), (), (0,))))
        self.assertEqual(together(one, one), (2, one[1] + one[1], (1,), ((0,), (0,))))
        self.assertEqual(together(one, one[:2] + ((),) + one[3:])[2], (1,))

    def test_at_most_three_machines(self):
        with self.assertRaises(TooMany) as caught:
            together(SHARED, SHARED)
        self.assertEqual(caught.exception.most, 3)
        with self.assertRaises(TooMany) as caught:
            together(WIDE, RING)
        self.assertEqual(caught.exception.most, 3)

    def test_then_at_most_24_places(self):
        ring = (2, (WIDE[1][0],), (), ((),))
        turned = renamed(ring, (1, 0))
        both = together(ring, turned)
        self.assertEqual(len(told_places(both)), 16)
        two = (2, (((1,), (((1, 1),), ((1, 0),))),), (), ((),))
        # The shared deed 1 keeps them in step.
        self.assertEqual(len(told_places(together(both, two))), 16)
        pair = (4, (((2,), (((2, 1),), ((2, 0),))),), (), ((),))
        four = (4, WIDE[1][:2], (), ((), ()))
        with self.assertRaises(TooMany) as caught:
            together(four, pair)
        self.assertEqual(caught.exception.most, 24)
        many = (4, WIDE[1][:2] + pair[1], (), ((), (), ()))
        self.assertEqual(outcome(together, many, pair), ("TooMany", 24))
        self.assertEqual(outcome(together, pair, many), ("TooMany", 24))
        self.assertEqual(outcome(together, four, four), ("TooMany", 3))

    def test_as_many_deeds(self):
        with self.assertRaises(OutOfPlace):
            together(RING, STILL)
        # Ahead of too many machines.
        self.assertEqual(outcome(together, SHARED, WIDE), ("OutOfPlace",))
        self.assertEqual(outcome(together, RING, MANY), ("TooMany", 24))

    def test_by_chance(self):
        chance = chance_of(15)
        for _ in range(80):
            one = some_works(chance, 3)
            two = some_works(chance, 3)
            due = (3, one[1] + two[1], tuple(sorted(set(one[2]) | set(two[2]))), one[3] + two[3])
            if len(due[1]) > 3:
                self.assertEqual(outcome(together, one, two), ("TooMany", 3))
            elif len(told_places(due)) > 24:
                self.assertEqual(outcome(together, one, two), ("TooMany", 24))
            else:
                self.assertEqual(outcome(together, one, two), ("ok", due))
                self.assertIsNone(told_works(due))


class Renamed(unittest.TestCase):
    def test_each_deed_stands_as_the_one_at_its_place(self):
        self.assertEqual(renamed(RING, (1, 0)), (2, (((0, 1), (((1, 1),), ((1, 2),), ((0, 2), (1, 0)))),), (0,), ((2,),)))
        self.assertEqual(renamed(SIX, (5, 4, 3, 2, 1, 0)), (6, (((0,), (((0, 0),),)),), (0, 1, 2, 3, 4, 5), ((0,),)))
        three = (3, (((0, 1), (((0, 1), (1, 0)), ())),), (0,), ((1,),))
        # 0 becomes 2, 1 becomes 0, 2 becomes 1.
        self.assertEqual(renamed(three, (2, 0, 1)), (3, (((0, 2), (((0, 0), (2, 1)), ())),), (2,), ((1,),)))

    def test_runs_by_other_names(self):
        chance = chance_of(16)
        for _ in range(60):
            works = some_works(chance, 3)
            for names in itertools.permutations(range(3)):
                other = renamed(works, names)
                self.assertIsNone(told_works(other))
                self.assertEqual(other[3], works[3])
                self.assertEqual(other[2], tuple(sorted(names[deed] for deed in works[2])))
                for row in told_rows(3, 3):
                    place = told_place(works, row)
                    self.assertEqual(told_place(other, tuple(names[deed] for deed in row)), place)
        self.assertEqual(renamed(CUBE, (0, 1, 2)), CUBE)

    def test_what_is_no_tuple_of_all_deeds(self):
        for names in ((), (0,), (0, 0), (1, 1), (0, 2), (0, 1, 2), [1, 0], None, (True, False), (1.0, 0.0), "10", (1, None),
                      ((1,), 0), (-1, 0), ([], 0), ({}, 0), 10):
            with self.assertRaises(OutOfPlace):
                renamed(RING, names)


if __name__ == "__main__":
    unittest.main()
