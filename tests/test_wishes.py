"""[20], [21], [22] WISHES, LEAST WISHES, MEET, JOIN, other names, STANDINGS: worksward/wishes.py."""

import itertools
import unittest

from common import (CUBE, RING, SAMPLES, SHARED, STILL, TRAP, at_path, chance_of, mutations, outcome, paths_of, same_kind,
                    some_wish, some_works, told_place, told_rows, told_runs, told_standings, told_state, told_wish,
                    told_wished, with_at)
from worksward.errors import BadWish, OutOfPlace, TooMany
from worksward.wishes import (do_keep, first_unwished, is_wished, join, least_wish, meet, need_wish, standings, state_of,
                              wish_renamed)

ALL = (((0, 0),), (0,))
NONE = (((1, 1), (1, 1)), (0,))
# Deed 1 never right behind deed 1.
APART = (((0, 1), (0, 2), (0, 0)), (0, 1))
# At most so many deeds: 4 of them in all, of one kind.
FEW = (((1,), (2,), (3,), (4,), (5,), (5,)), (0, 1, 2, 3, 4))


def told_kinds(deeds, wish):
    """The least number of states that the rows of a WISH want: how many kinds of rows there are by what is wished on."""
    many = len(wish[0])
    kinds = {state: state in wish[1] for state in range(many)}
    for _ in range(many):
        names = {}
        for state in range(many):
            key = (tuple(kinds[to] for to in wish[0][state])) if state in wish[1] else None
            names.setdefault(key, []).append(state)
        kinds = {state: number for number, states in enumerate(names.values()) for state in states}
    coming = [0]
    for state in coming:
        if state in wish[1]:
            coming += [to for to in dict.fromkeys(wish[0][state]) if to not in coming]
    return len({kinds[state] for state in coming})


def told_same(deeds, wish, accepts):
    """Whether a WISH wishes just the rows that a function accepts, of rows long enough to tell."""
    return all(told_wished(wish, row) == accepts(row) for row in told_rows(deeds, {1: 14, 2: 7, 3: 5}[deeds]))


def turning_wish(chance, deeds):
    """A WISH of which each deed leads each state to another one, so that few of them go on alike."""
    many = chance.randint(2, 4)
    columns = [chance.sample(range(many), many) for _ in range(deeds)]
    return (tuple(zip(*columns)), tuple(range(many - 1)))


class NeedWish(unittest.TestCase):
    def refuse(self, part, deeds, thing):
        with self.assertRaises(BadWish) as caught:
            need_wish(deeds, thing)
        self.assertEqual(caught.exception.part, part)

    def test_gives_itself(self):
        for deeds, wish in ((2, ALL), (2, NONE), (2, APART), (1, FEW), (6, (((0,) * 6,), (0,)))):
            self.assertIs(need_wish(deeds, wish), wish)
        chance = chance_of(20)
        for _ in range(200):
            deeds = chance.randint(1, 6)
            wish = some_wish(chance, deeds)
            self.assertIs(need_wish(deeds, wish), wish)

    def test_deeds(self):
        for deeds in (0, 7, -1, True, False, 1.0, "2", None, (2,), [2], 10 ** 999):
            with self.assertRaises(OutOfPlace):
                need_wish(deeds, ALL)
            with self.assertRaises(OutOfPlace):
                need_wish(deeds, None)

    def test_form(self):
        for thing in (None, (), ALL[:1], ALL + ((),), list(ALL), 3, "ab", {0: 1, 1: 2}, True):
            self.refuse("form", 2, thing)

    def test_steps(self):
        for steps in ((), ((0, 0),) * 7, [(0, 0)], None, 0, (None,), ([0, 0],), ((0,),), ((0, 0, 0),), ((0, 1),), ((0, -1),),
                      ((0, True),), ((False, 0),), ((0, 0.0),), ((0, "0"),), ((0, 0), (0, 2)), ((0, (0,)),), "ab", ((),)):
            self.refuse("steps", 2, (steps, None))
        need_wish(2, (((0, 0),) * 6, (0,)))
        self.refuse("steps", 3, ALL)
        self.refuse("steps", 1, ALL)

    def test_good(self):
        for good in ((), (1,), (1, 0), (0, 0), (0, 2), (0, 3), [0], None, 0, (False,), (0.0,), (0, True), ("0",), (-1, 0),
                     ((0,),), {0}, "0"):
            self.refuse("good", 2, (((0, 0), (1, 1)), good))
        for good in ((0,), (0, 1)):
            need_wish(2, (((0, 0), (1, 1)), good))

    def test_things_that_are_otherwise(self):
        chance = chance_of(21)
        for _ in range(25):
            deeds = chance.randint(1, 3)
            for thing in mutations(some_wish(chance, deeds), chance, 400):
                part = told_wish(deeds, thing)
                due = ("ok", thing) if part is None else ("BadWish", part)
                self.assertEqual(outcome(need_wish, deeds, thing), due)

    def test_true_at_each_path(self):
        for wish in (APART, NONE):
            for path in paths_of(wish):
                for new in (True, False, list(at_path(wish, path)) if isinstance(at_path(wish, path), tuple) else 0.0):
                    self.assertEqual(outcome(need_wish, 2, with_at(wish, path, new))[0], "BadWish")


class Rows(unittest.TestCase):
    def test_states(self):
        self.assertEqual(state_of(2, APART, ()), 0)
        self.assertEqual(state_of(2, APART, (1,)), 1)
        self.assertEqual(state_of(2, APART, (1, 1)), 2)
        # Behind a row that is not wished there are states, too.
        self.assertEqual(state_of(2, APART, (1, 1, 0)), 0)
        self.assertEqual(state_of(1, FEW, (0,) * 400), 5)

    def test_wished_rows(self):
        self.assertIs(is_wished(2, APART, ()), True)
        self.assertIs(is_wished(2, APART, (1, 0, 1, 0, 0)), True)
        self.assertIs(is_wished(2, APART, (1, 1)), False)
        # Its last state is good, but not that behind a beginning.
        self.assertIs(is_wished(2, APART, (1, 1, 0)), False)
        self.assertIs(is_wished(2, ALL, (1, 1, 0)), True)
        self.assertIs(is_wished(2, NONE, ()), True)
        self.assertIs(is_wished(2, NONE, (0,)), False)

    def test_by_chance(self):
        chance = chance_of(22)
        for _ in range(60):
            deeds = chance.randint(1, 3)
            wish = some_wish(chance, deeds)
            for row in told_rows(deeds, 4):
                self.assertEqual(state_of(deeds, wish, row), told_state(wish, row))
                self.assertIs(is_wished(deeds, wish, row), told_wished(wish, row))

    def test_of_400_deeds_and_of_more(self):
        long = (1, 0) * 200
        self.assertEqual(state_of(2, APART, long), 0)
        with self.assertRaises(OutOfPlace):
            state_of(2, APART, long + (1,))
        self.assertIs(is_wished(2, APART, long + (1,)), True)
        self.assertIs(is_wished(2, APART, long * 40), True)
        self.assertIs(is_wished(2, APART, long * 40 + (1, 1)), False)
        self.assertIs(is_wished(2, APART, (1, 1) + long * 40), False)

    def test_what_is_no_row(self):
        for row in (None, [], [0], "01", 0, (2,), (-1,), (True,), (0.0,), ("0",), ((0,),), ([],), (0, None), {}, {0}):
            with self.assertRaises(OutOfPlace):
                state_of(2, ALL, row)
            self.assertIs(is_wished(2, ALL, row), False)


class LeastWishes(unittest.TestCase):
    def test_least_wishes(self):
        self.assertEqual(least_wish(2, ALL), ALL)
        self.assertEqual(least_wish(2, NONE), NONE)
        self.assertEqual(least_wish(2, APART), (((0, 1), (0, 2), (2, 2)), (0, 1)))
        self.assertEqual(least_wish(1, FEW), FEW)
        # All is wished: all states are one, whatever is not good but does not come.
        self.assertEqual(least_wish(1, (((1,), (2,), (0,), (3,)), (0, 1, 2))), (((0,),), (0,)))
        # What is not good is one state that leads to itself, and is numbered where it first comes.
        self.assertEqual(least_wish(2, (((1, 2), (0, 0), (2, 3), (2, 2)), (0, 2))), (((1, 2), (1, 1), (2, 1)), (0, 2)))
        self.assertEqual(least_wish(2, (((2, 1), (1, 0), (0, 2)), (0, 1))), (((1, 2), (1, 1), (2, 0)), (0, 2)))
        # Numbered by first rows.
        self.assertEqual(least_wish(2, (((2, 1), (3, 1), (1, 3), (3, 3)), (0, 1, 2))),
                         (((1, 2), (2, 3), (3, 2), (3, 3)), (0, 1, 2)))

    def test_by_chance(self):
        chance = chance_of(23)
        less = 0
        for _ in range(250):
            deeds = chance.randint(1, 3)
            wish = some_wish(chance, deeds, part=chance.choice((0.6, 0.95)))
            least = least_wish(deeds, wish)
            self.check_least(deeds, least)
            self.assertEqual(len(least[0]), told_kinds(deeds, wish))
            self.assertTrue(told_same(deeds, wish, lambda row: told_wished(least, row)))
            less += len(least[0]) < len(wish[0])
        self.assertGreater(less, 50)

    def check_least(self, deeds, least):
        """That it has the form of a LEAST WISH."""
        self.assertIsNone(told_wish(deeds, least))
        bad = [state for state in range(len(least[0])) if state not in least[1]]
        self.assertLessEqual(len(bad), 1)
        for state in bad:
            self.assertEqual(least[0][state], (state,) * deeds)
        order = [0]
        for state in order:
            order += [to for to in dict.fromkeys(least[0][state]) if to not in order]
        self.assertEqual(order, list(range(len(least[0]))))
        self.assertEqual(told_kinds(deeds, least), len(least[0]))

    def test_meet_and_join(self):
        one = (((0, 1), (1, 1)), (0,))
        two = (((1, 0), (1, 1)), (0,))
        self.assertEqual(meet(2, one, two), (((1, 1), (1, 1)), (0,)))
        self.assertEqual(join(2, one, two), (((1, 2), (1, 3), (3, 2), (3, 3)), (0, 1, 2)))
        self.assertEqual(meet(2, APART, ALL), least_wish(2, APART))
        self.assertEqual(join(2, APART, ALL), ALL)
        self.assertEqual(meet(2, APART, NONE), NONE)
        self.assertEqual(join(2, APART, NONE), least_wish(2, APART))

    def test_meet_and_join_by_chance(self):
        chance = chance_of(24)
        seen = {"meet": 0, "join": 0, "many": 0}
        for _ in range(250):
            deeds = chance.randint(1, 3)
            one, two = [some_wish(chance, deeds, 5) if chance.random() < 0.5 else turning_wish(chance, deeds)
                        for _ in range(2)]
            for name, call, mix in (("meet", meet, all), ("join", join, any)):
                told = outcome(call, deeds, one, two)
                self.assertEqual(told, outcome(call, deeds, two, one))
                if told[0] == "ok":
                    seen[name] += 1
                    self.check_least(deeds, told[1])
                    self.assertEqual(len(told[1][0]), self.many_kinds(deeds, one, two, mix))
                    self.assertTrue(told_same(deeds, told[1], lambda row: mix([told_wished(one, row), told_wished(two, row)])))
                else:
                    seen["many"] += 1
                    self.assertEqual(told, ("TooMany", 6))
                    self.assertGreater(self.many_kinds(deeds, one, two, mix), 6)
        self.assertTrue(min(seen.values()) > 5, seen)

    def many_kinds(self, deeds, one, two, mix):
        """How many states the rows want that both wish, or one of them, by all couples of states."""
        couples = [(0, 0)]
        rows = []
        for couple in couples:
            row = []
            for deed in range(deeds):
                after = tuple(wish[0][state][deed] if state is not None and wish[0][state][deed] in wish[1] else None
                              for wish, state in zip((one, two), couple))
                if after not in couples:
                    couples.append(after)
                row.append(couples.index(after))
            rows.append(tuple(row))
        good = tuple(k for k, couple in enumerate(couples) if mix([state is not None for state in couple]))
        return told_kinds(deeds, (tuple(rows), good))

    def test_at_most_6_states(self):
        # Of two deeds: not twice the one, not three times the other.
        one = (((1, 0), (2, 1), (2, 2)), (0, 1))
        two = (((0, 1), (1, 2), (2, 2)), (0, 1))
        three = (((0, 1), (1, 2), (2, 3), (3, 3)), (0, 1, 2))
        self.assertEqual(len(meet(2, one, two)[0]), 5)
        with self.assertRaises(TooMany) as caught:
            meet(2, one, three)
        self.assertEqual(caught.exception.most, 6)
        self.assertEqual(outcome(join, 2, one, three), ("TooMany", 6))
        # 6 states just go.
        five = (((1,), (2,), (3,), (4,), (5,), (5,)), (0, 1, 2, 3, 4))
        self.assertEqual(meet(1, five, (((0,),), (0,))), five)
        three_one = (((1,), (2,), (3,), (3,)), (0, 1, 2))
        self.assertEqual(meet(1, five, three_one), three_one)
        self.assertEqual(join(1, five, three_one), five)


class OtherNames(unittest.TestCase):
    def test_each_deed_stands_as_the_one_at_its_place(self):
        self.assertEqual(wish_renamed(2, APART, (1, 0)), (((1, 0), (2, 0), (0, 0)), (0, 1)))
        # 0 becomes 2, 1 becomes 0, 2 becomes 1; the states stay.
        self.assertEqual(wish_renamed(3, (((3, 1, 2),) * 4, (0, 2)), (2, 0, 1)), (((1, 2, 3),) * 4, (0, 2)))

    def test_by_chance(self):
        chance = chance_of(25)
        for _ in range(30):
            wish = some_wish(chance, 3)
            for names in itertools.permutations(range(3)):
                other = wish_renamed(3, wish, names)
                self.assertEqual(other[1], wish[1])
                for row in told_rows(3, 3):
                    self.assertEqual(told_state(other, tuple(names[deed] for deed in row)), told_state(wish, row))

    def test_what_is_no_tuple_of_all_deeds(self):
        for names in ((), (0,), (0, 0), (0, 2), (0, 1, 2), [1, 0], None, (True, False), (1.0, 0.0), "10", (1, None), 1):
            with self.assertRaises(OutOfPlace):
                wish_renamed(2, APART, names)


class Standings(unittest.TestCase):
    def test_standings(self):
        self.assertEqual(standings(RING, ALL), (((0,), 0), ((1,), 0), ((2,), 0)))
        self.assertEqual(standings(RING, NONE), (((0,), 0),))
        self.assertEqual(standings(RING, APART), (((0,), 0), ((1,), 0), ((2,), 0), ((2,), 1)))
        # The states stand as the WISH has them, though two of them are the same.
        self.assertEqual(standings(RING, (((1, 1), (0, 0)), (0, 1))), tuple(((k,), s) for k in range(3) for s in range(2)))

    def test_first_unwished(self):
        self.assertIsNone(first_unwished(RING, ALL))
        self.assertEqual(first_unwished(RING, NONE), (0,))
        self.assertEqual(first_unwished(RING, APART), (0, 0, 1, 1))
        self.assertIsNone(first_unwished(STILL, (((1,), (1,)), (0,))))
        self.assertIs(do_keep(RING, ALL), True)
        self.assertIs(do_keep(RING, APART), False)
        # The shorter one, and of these the least.
        trap = (((1, 3, 2), (2, 3, 3), (0, 0, 3), (3, 3, 3)), (0, 1, 2))
        self.assertEqual(first_unwished(TRAP, trap), (0, 1))

    def test_by_chance(self):
        chance = chance_of(26)
        kept = 0
        for works in SAMPLES + tuple(some_works(chance, most=3) for _ in range(200)):
            wish = some_wish(chance, works[0], part=chance.choice((0.6, 0.9)))
            self.assertEqual(standings(works, wish), tuple(sorted(told_standings(works, wish))))
            run = first_unwished(works, wish)
            self.assertIs(do_keep(works, wish), run is None)
            bad = [row for row in told_runs(works, 4) if not told_wished(wish, row)]
            if bad:
                self.assertEqual(run, bad[0])
            elif run is not None:
                self.assertGreater(len(run), 4)
                self.assertIsNotNone(told_place(works, run))
                self.assertFalse(told_wished(wish, run))
                self.assertTrue(told_wished(wish, run[:-1]))
            else:
                kept += 1
        self.assertGreater(kept, 20)

    def test_works_are_looked_at_ahead_of_wishes(self):
        for call in (standings, first_unwished, do_keep):
            self.assertEqual(outcome(call, None, None), ("BadWorks", "form"))
            self.assertEqual(outcome(call, RING, None), ("BadWish", "form"))
            self.assertEqual(outcome(call, RING, FEW), ("BadWish", "steps"))
            self.assertEqual(outcome(call, CUBE, ALL), ("BadWish", "steps"))
            self.assertEqual(outcome(call, SHARED, (((0, 0, 0, 0),), ())), ("BadWish", "good"))
        self.assertTrue(same_kind(do_keep(RING, ALL), True))


if __name__ == "__main__":
    unittest.main()
