"""[10], [11] WORKS, places, RUNS, GOALS: worksward/works.py."""

import unittest

from common import (BOUND24, CUBE, JUST24, MANY, MORE32, PAIR24, PAIR32, RING, SAMPLES, SHARED, SIX, STILL, TRAP, WIDE, WIDE27, at_path, chance_of, mutations,
                    outcome, paths_of, same_kind, some_machine, some_works, told_all_places, told_do, told_goal, told_place, told_places,
                    told_rows, told_works)
from worksward.errors import BadWorks, OutOfPlace, TooMany
from worksward.works import behind, doable, is_goal, is_run, need_works, place_of, places

ONE = (((0,), (((0, 0),),)))


def machine(has, *rows):
    return (has, rows)


class NeedWorks(unittest.TestCase):
    def refuse(self, part, thing):
        with self.assertRaises(BadWorks) as caught:
            need_works(thing)
        self.assertTrue(same_kind(caught.exception.part, part), (part, caught.exception.part, thing))

    def test_gives_itself(self):
        for works in SAMPLES:
            self.assertIs(need_works(works), works)
        chance = chance_of(1)
        for _ in range(150):
            works = some_works(chance, chance.randint(1, 6))
            self.assertIs(need_works(works), works)

    def test_form(self):
        for thing in (None, (), RING[:3], RING + ((),), list(RING), "abcd", {}, 4, True, (RING,)):
            self.refuse("form", thing)

    def test_deeds(self):
        for deeds in (0, 7, -1, True, False, 1.0, "1", None, (1,), [1], 10 ** 999):
            self.refuse("deeds", (deeds,) + STILL[1:])
        for deeds in range(1, 7):
            need_works((deeds,) + STILL[1:])

    def test_machines(self):
        for machines in ((), (ONE,) * 4, [ONE], None, 1, {0: ONE}, "ab"):
            self.refuse("machines", (1, machines, (), ((),) * 4))
        for many in (1, 2, 3):
            need_works((1, (ONE,) * many, (), ((),) * many))

    def test_the_first_machine_that_is_none(self):
        self.refuse(0, (1, (None, None), (), ((), ())))
        self.refuse(1, (1, (ONE, None, ()), None, None))
        self.refuse(2, (1, (ONE, ONE, ()), None, None))
        self.refuse(0, (1, (ONE[0],), None, None))

    def test_has(self):
        for has in ((1, 0), (0, 0), (2,), (-1,), [0], (True,), (0.0,), None, 0, ("0",), (0, None)):
            self.refuse(0, (2, (machine(has, ()),), (), ((),)))
        for has in ((), (0,), (1,), (0, 1)):
            need_works((2, (machine(has, ()),), (), ((),)))

    def test_rows(self):
        for rows in ((), ((),) * 5, [()], None, ([],), (None,), (((0, 0, 0),),), (((0,),),), ((0, 0),), (([0, 0],),),
                     (((0, 1),),), (((0, -1),),), (((0, True),), ()), (((False, 0),),), (((0, 0.0),),), (((2, 0),),),
                     (((1, 0), (0, 0)),), (((0, 0), (0, 0)),), (((0, 0), (0, 1)), ()), (((0, None),),), (((None, 0),),)):
            self.refuse(0, (3, (((0, 1), rows),), (), ((),)))
        for rows in (((),), ((),) * 4, (((0, 0),),), (((0, 3), (1, 0)), (), ((1, 1),), ((0, 2),))):
            need_works((3, (((0, 1), rows),), (), ((),)))

    def test_machines_are_looked_at_for_their_form(self):
        for thing in (((0,),), ((0,), ((),), ()), [(0,), ((),)], None, 5, (), "ab"):
            self.refuse(0, (1, (thing,), (), ((),)))

    def test_free(self):
        for free in ((1, 0), (0, 0), (2,), (-1,), [0], None, 0, (True,), (0.0,), ("a",), ((),)):
            self.refuse("free", (2, (machine((0,), ()),), free, None))
        for free in ((), (0,), (1,), (0, 1)):
            need_works((2, (machine((0,), ()),), free, ((),)))

    def test_goals(self):
        two = (machine((0,), ()), machine((0,), (), ()))
        for goals in ((), ((),), ((), (), ()), [(), ()], None, ((), None), ((1,), ()), ((), (2,)), ((), (1, 0)),
                      ((), (0, 0)), ((False,), ()), ((), [0]), ((), (-1,)), ((), (0.0,)), 0, ((), 0)):
            self.refuse("goals", (1, two, (), goals))
        for goals in (((), ()), ((0,), ()), ((), (0, 1)), ((0,), (1,))):
            need_works((1, two, (), goals))

    def test_the_order_of_parts(self):
        self.refuse("form", (0, None, None))
        self.refuse("deeds", (0, (), None, None))
        self.refuse("machines", (1, (), None, None))
        self.refuse(0, (1, (None,), None, None))
        self.refuse("free", (1, (ONE,), None, None))
        self.refuse("goals", (1, (ONE,), (), None))

    def test_too_many_places(self):
        self.assertEqual(len(told_places(CUBE)), 24)
        self.assertEqual(len(told_places(MANY)), 25)
        need_works(CUBE)
        with self.assertRaises(TooMany) as caught:
            need_works(MANY)
        self.assertEqual(caught.exception.most, 24)
        # GOALS come ahead of it.
        self.refuse("goals", MANY[:3] + (((0,), (0,), (2,)),))
        # 64 places, of which few come.
        stuck = machine((0,), (), ((0, 2),), ((0, 3),), ())
        self.assertEqual(places((1, (stuck,) * 3, (), ((), (), ()))), ((0, 0, 0),))


    def test_just_24_places_of_many_more_that_could_come(self):
        for works in (JUST24, BOUND24, PAIR24):
            self.assertEqual([len(rows) for _, rows in works[1]], [4, 4, 4])
            self.assertEqual(len(told_places(works)), 24)
            self.assertIs(need_works(works), works)
            self.assertEqual(places(works), tuple(sorted(told_places(works))))
        for works, many in ((MORE32, 32), (PAIR32, 32), (WIDE27, 27), (MANY, 25)):
            self.assertEqual(len(told_places(works)), many)
            self.assertEqual(outcome(need_works, works), ("TooMany", 24))

    def test_how_many_places_by_chance(self):
        chance = chance_of(6)
        counts = {}
        while min([counts.get(many, 0) for many in (23, 24, 25, 26)]) < 12:
            deeds = chance.randint(1, 6)
            parts = tuple(some_machine(chance, deeds, 4, 0.8, has=chance.choice((0.3, 0.5, 0.7))) for _ in range(3))
            works = (deeds, parts, (), ((), (), ()))
            many = len(told_places(works))
            counts[many] = counts.get(many, 0) + 1
            self.assertEqual(outcome(need_works, works), ("ok", works) if many <= 24 else ("TooMany", 24), works)

    def test_things_that_are_otherwise_at_one_path(self):
        chance = chance_of(2)
        for works in SAMPLES + tuple(some_works(chance) for _ in range(6)):
            for thing in mutations(works, chance, 1500):
                error = told_works(thing)
                if error is None:
                    self.assertIs(need_works(thing), thing)
                else:
                    self.assertEqual(outcome(need_works, thing), error, thing)

    def test_true_and_lists_at_each_path(self):
        for works in SAMPLES[:3]:
            for path in paths_of(works):
                for new in (True, False, list, float):
                    part = at_path(works, path)
                    if new is list and isinstance(part, tuple):
                        changed = list(part)
                    elif new is float and isinstance(part, int):
                        changed = float(part)
                    elif new in (True, False):
                        changed = new
                    else:
                        continue
                    thing = self.with_part(works, path, changed)
                    self.assertEqual(outcome(need_works, thing), told_works(thing))
                    self.assertIsNotNone(told_works(thing))

    def with_part(self, thing, path, new):
        if not path:
            return new
        return thing[:path[0]] + (self.with_part(thing[path[0]], path[1:], new),) + thing[path[0] + 1:]


class Places(unittest.TestCase):
    def test_a_deed_that_two_machines_share(self):
        # Deed 1 is had by both: it waits until each can do it.
        self.assertEqual(doable(SHARED, (0, 0)), (0,))
        self.assertEqual(doable(SHARED, (1, 0)), (1,))
        self.assertEqual(behind(SHARED, (1, 0), 1), (0, 1))
        self.assertEqual(doable(SHARED, (0, 1)), (0, 2))
        self.assertEqual(doable(SHARED, (1, 1)), (2,))
        self.assertEqual(behind(SHARED, (0, 1), 2), (0, 0))
        self.assertEqual(behind(SHARED, (1, 1), 2), (1, 0))
        self.assertEqual(places(SHARED), ((0, 0), (0, 1), (1, 0), (1, 1)))

    def test_a_deed_that_no_machine_has(self):
        for place in places(SHARED):
            self.assertNotIn(3, doable(SHARED, place))
            with self.assertRaises(OutOfPlace):
                behind(SHARED, place, 3)
        self.assertEqual(doable(SIX, (0,)), (5,))
        self.assertEqual(doable(STILL, (0,)), ())

    def test_a_deed_that_is_had_but_stands_in_no_row(self):
        works = (2, (((0, 1), (((1, 0),),)), ((0,), (((0, 0),),))), (), ((), ()))
        self.assertEqual(doable(works, (0, 0)), (1,))

    def test_places_that_do_not_come(self):
        works = (1, (((0,), (((0, 0),), ((0, 1),))), ((), ((), ()))), (), ((1,), (1,)))
        self.assertEqual(places(works), ((0, 0),))
        self.assertEqual(doable(works, (1, 1)), (0,))
        self.assertEqual(behind(works, (1, 1), 0), (1, 1))
        self.assertIs(is_goal(works, (1, 1)), True)
        self.assertIs(is_goal(works, (1, 0)), False)
        self.assertIs(is_goal(works, (0, 1)), False)

    def test_goals(self):
        self.assertIs(is_goal(RING, (2,)), True)
        self.assertIs(is_goal(RING, (0,)), False)
        self.assertIs(is_goal(SHARED, (0, 1)), True)
        self.assertIs(is_goal(SHARED, (1, 1)), False)
        self.assertIs(is_goal(STILL, (0,)), False)

    def test_places_ascend(self):
        self.assertEqual(len(places(CUBE)), 24)
        self.assertEqual(places(RING), ((0,), (1,), (2,)))
        self.assertEqual(places(WIDE)[:2], ((0, 0, 0), (0, 1, 0)))
        self.assertEqual(len(places(WIDE)), 16)

    def test_all_of_it_by_chance(self):
        chance = chance_of(3)
        for _ in range(120):
            works = some_works(chance, chance.randint(1, 6))
            self.assertEqual(places(works), tuple(sorted(told_places(works))))
            for place in told_all_places(works):
                targets = [told_do(works, place, deed) for deed in range(works[0])]
                can = tuple(deed for deed in range(works[0]) if targets[deed] is not None)
                self.assertEqual(doable(works, place), can)
                self.assertIs(is_goal(works, place), told_goal(works, place))
                for deed in range(works[0]):
                    due = ("OutOfPlace",) if targets[deed] is None else ("ok", targets[deed])
                    self.assertEqual(outcome(behind, works, place, deed), due)

    def test_what_is_no_place_and_no_deed(self):
        for call in (doable, is_goal, lambda works, place: behind(works, place, 0)):
            for place in ((), (0,), (0, 0, 0), (2, 0), (0, -1), [0, 0], (0, True), (0.0, 0), None, 0, ((0,), 0), (0, "0")):
                with self.assertRaises(OutOfPlace):
                    call(SHARED, place)
        for deed in (-1, 4, True, False, 0.0, "0", None, (0,), [], 10 ** 999):
            with self.assertRaises(OutOfPlace):
                behind(SHARED, (0, 0), deed)


class Runs(unittest.TestCase):
    def test_places_of_runs(self):
        self.assertEqual(place_of(RING, ()), (0,))
        self.assertEqual(place_of(RING, (0, 0)), (2,))
        self.assertEqual(place_of(RING, (0, 0, 1, 1, 0)), (0,))
        self.assertEqual(place_of(TRAP, (0, 1)), (3,))
        self.assertEqual(place_of(SHARED, (0, 1, 0, 2)), (1, 0))

    def test_all_short_rows(self):
        chance = chance_of(4)
        for works in SAMPLES + tuple(some_works(chance) for _ in range(60)):
            for row in told_rows(min(works[0], 3), 4):
                place = told_place(works, row)
                self.assertIs(is_run(works, row), place is not None)
                self.assertEqual(outcome(place_of, works, row), ("OutOfPlace",) if place is None else ("ok", place))

    def test_of_400_deeds_and_of_more(self):
        long = (0, 0, 1, 0) * 100
        self.assertEqual(place_of(RING, long), (0,))
        with self.assertRaises(OutOfPlace):
            place_of(RING, long + (0,))
        self.assertIs(is_run(RING, long + (0,)), True)
        self.assertIs(is_run(RING, long * 50), True)
        self.assertIs(is_run(RING, long * 50 + (1,)), False)
        self.assertIs(is_run(RING, (1,) + long * 50), False)
        self.assertIs(is_run(STILL, (0,) * 401), False)
        for odd in (True, False, 0.0, 1.0, None, "0", (0,), [], 2, -1, 10 ** 999):
            for value in (long * 50 + (odd,), (odd,) + long * 50, long * 25 + (odd,) + long * 25):
                self.assertIs(is_run(RING, value), False, odd)

    def test_long_runs_by_chance(self):
        chance = chance_of(7)
        for _ in range(60):
            works = some_works(chance, chance.randint(1, 6))
            run = ()
            place = (0,) * len(works[1])
            for _ in range(1010):
                can = doable(works, place)
                if can:
                    run += (chance.choice(can),)
                    place = told_do(works, place, run[-1])
            self.assertIs(is_run(works, run), True)
            at = chance.randrange(len(run) + 1)
            other = run[:at] + (chance.randrange(works[0]),) + run[at + 1:]
            self.assertIs(is_run(works, other), told_place(works, other) is not None)

    def test_any_value(self):
        for value in (None, 0, [], [0, 0], "00", (True,), (False,), (0.0,), ("0",), ((0,),), ([],), (None,), {}, {0: 0},
                      (0, False), (-1,), (2,), (10 ** 999,), (0, 0, [1]), range(1), b"", frozenset(), (0, {})):
            self.assertIs(is_run(RING, value), False, value)
            if value != () or not isinstance(value, tuple):
                with self.assertRaises(OutOfPlace):
                    place_of(RING, value)
        self.assertIs(is_run(RING, ()), True)

    def test_runs_are_rows_that_begin_at_the_first_place(self):
        self.assertIs(is_run(RING, (0, 1)), False)
        self.assertIs(is_run(RING, (1,)), False)
        self.assertIs(is_run(TRAP, (0, 1, 0)), False)
        self.assertIs(is_run(TRAP, (2, 2)), True)


if __name__ == "__main__":
    unittest.main()
