"""[70], [71] What keeps a WISH moving, the MEAN, and papers on it: worksward/costs.py."""

import math
import unittest
from fractions import Fraction

from common import (CUBE, MANY, RING, STILL, chance_of, junk, outcome, some_lot, some_wish, some_works, told_do, told_good, told_int,
                    told_place, told_runs, told_standings, told_start, told_tuple, told_wished)
from test_costpapers import ALL2, FIRST, FREE_1, TWO_WAYS, cases, made_gone, made_mean, told_check_mean
from worksward.costpapers import check_mean
from worksward.costs import can_move, least_paper, mean_cost, most_paper

# A still place behind deed 1, which cannot be stopped.
PIT = (2, (((0, 1), (((0, 0), (1, 1)), ())),), (1,), ((1,),))
# Two rings at the first place: one of three deeds, one of two.
RINGS = (3, (((0, 1, 2), (((0, 1), (1, 3)), ((0, 2),), ((0, 0),), ((2, 0),))),), (), ((),))
ALL3 = (((0, 0, 0),), (0,))
CALLS = (mean_cost, most_paper, least_paper)


def ring_of(many, free=()):
    """One MACHINE alone that goes round by deeds 0 and, at its last state, 1."""
    rows = tuple(((0, k + 1),) for k in range(many - 1)) + (((1, 0),),)
    return (2, (((0, 1), rows),), free, ((),))


def great_cases(seed, many):
    """WORKS and WISHES with more PAIRS, more choices and more deeds of FREE."""
    chance = chance_of(seed)
    for _ in range(many):
        deeds = chance.randint(2, 5)
        works = some_works(chance, deeds, chance.randint(1, 2), most=4, part=chance.choice([0.7, 1.0]))
        works = works[:2] + (some_lot(chance, deeds, chance.choice([0.2, 0.5, 0.8])),) + works[3:]
        yield works, some_wish(chance, deeds, 5, chance.choice([0.8, 1.0])), tuple(chance.randint(0, 9) for _ in range(deeds))


class Moving(unittest.TestCase):
    def test_ordinary(self):
        self.assertIs(can_move(TWO_WAYS, ALL2), True)
        self.assertIs(can_move(STILL, (((0,),), (0,))), False)
        self.assertIs(can_move(PIT, ALL2), False)
        self.assertIs(can_move(PIT[:2] + ((),) + PIT[3:], ALL2), True)
        # What is not wished need not be done, unless it cannot be stopped.
        never_1 = (((0, 1), (1, 1)), (0,))
        self.assertIs(can_move(TWO_WAYS, never_1), True)
        self.assertIs(can_move(FREE_1, never_1), False)
        self.assertIs(can_move(RING, (((0, 1), (1, 1)), (0,))), False)
        # A deed of FREE is let with the others, but one of these may be let alone where none can be done.
        self.assertIs(can_move(TWO_WAYS, (((1, 0), (1, 1)), (0,))), True)

    def test_goals_do_not_matter(self):
        for goals in ((), (0,), (0, 1)):
            works = TWO_WAYS[:3] + ((goals,),)
            self.assertIs(can_move(works, ALL2), True)
            self.assertEqual(mean_cost(works, ALL2, (3, 1)), (1, 1))

    def test_by_chance(self):
        seen = {True: 0, False: 0}
        for works, wish, prices in cases(330, 300, 8):
            due = first_of(works) not in made_gone(works, wish)
            seen[due] += 1
            self.assertIs(can_move(works, wish), due)
            for call in CALLS:
                self.assertEqual(outcome(call, works, wish, prices)[0], "ok" if due else "Nothing")
        self.assertGreater(min(seen.values()), 20)

    def test_by_the_words(self):
        # A GUARD that lets all deeds but those that lead to where it can let none is the best one.
        for works, wish, _ in cases(331, 80, 6):
            lot = {pair: [deed for deed in range(works[0]) if told_do(works, pair[0], deed)] for pair in told_standings(works, wish)}
            while True:
                bad = [pair for pair, deeds in lot.items()
                       if not any(told_good(works, wish, pair, deed) in lot for deed in deeds)
                       or any(deed in works[2] and told_good(works, wish, pair, deed) not in lot for deed in deeds)]
                if not bad:
                    break
                lot = {pair: deeds for pair, deeds in lot.items() if pair not in bad}
            self.assertIs(can_move(works, wish), first_of(works) in lot)


def first_of(works):
    return (told_start(works), 0)


class Means(unittest.TestCase):
    def test_ordinary(self):
        for works, wish, prices, due in ((TWO_WAYS, ALL2, (3, 1), (1, 1)), (TWO_WAYS, ALL2, (0, 9), (0, 1)), (TWO_WAYS, ALL2, (9, 9), (9, 1)),
                                         (FREE_1, ALL2, (3, 1), (1, 1)), (RING, ALL2, (2, 5), (5, 1)), (RING[:2] + ((),) + RING[3:], ALL2, (2, 5), (2, 1)),
                                         (RINGS, ALL3, (2, 1, 4), (2, 1)), (RINGS, ALL3, (3, 1, 4), (5, 2)), (ring_of(4), ALL2, (0, 1), (1, 4)),
                                         (ring_of(3), ALL2, (2, 9), (13, 3)), (ring_of(4), ALL2, (1, 3), (3, 2)), (ring_of(2), ALL2, (9, 9), (9, 1))):
            self.assertEqual(mean_cost(works, wish, prices), due, (works, prices))

    def test_free_deeds_choose_the_most(self):
        # Deed 0 round, or 1 and 2 to and fro; all of them cannot be stopped.
        works = (3, (((0, 1, 2), (((0, 0), (1, 1)), ((2, 0),))),), (0, 1), ((),))
        for prices, due in (((3, 1, 1), (3, 1)), ((0, 1, 2), (3, 2)), ((1, 0, 2), (1, 1)), ((0, 0, 0), (0, 1)), ((4, 0, 9), (9, 2))):
            self.assertEqual(mean_cost(works, ALL3, prices), due)

    def test_what_is_done_once_does_not_count(self):
        works = (2, (((0, 1), (((1, 1),), ((0, 1),))),), (), ((),))
        self.assertEqual(mean_cost(works, ALL2, (2, 9)), (2, 1))

    def test_the_first_way_is_the_cheapest_for_a_while(self):
        # By the wish 0 may be done once at most, behind which there are 1 alone.
        wish = (((1, 0), (2, 1), (2, 2)), (0, 1))
        works = (2, (((0, 1), (((0, 0), (1, 0)),)),), (), ((),))
        self.assertEqual(mean_cost(works, wish, (0, 7)), (7, 1))

    def test_as_many_pairs_as_the_fraction_says(self):
        # Twelve PAIRS in a ring: four places, three states.
        wish = (((1, 1), (2, 2), (0, 0)), (0, 1, 2))
        works = ring_of(4)
        for prices in ((0, 1), (1, 2), (9, 8), (5, 0)):
            self.assertEqual(mean_cost(works, wish, prices), mean_cost(works, ALL2, prices))
        once = (((0, 1), (0, 2), (0, 3), (4, 4), (4, 4)), (0, 1, 2, 3))
        self.assertEqual(mean_cost(works, once, (1, 0)), (3, 4))

    def test_by_chance(self):
        parts = {}
        for works, wish, prices in cases(332, 400, 7):
            gone = made_gone(works, wish)
            if first_of(works) in gone:
                continue
            due, _ = made_mean(works, wish, prices, gone)
            parts[due[1]] = parts.get(due[1], 0) + 1
            self.assertEqual(mean_cost(works, wish, prices), due, (works, wish, prices))
        self.assertTrue(len(parts) > 1, parts)

    def test_no_guard_does_better_by_the_words(self):
        # Without deeds of FREE the MEAN is that of the cheapest of long RUNS, nearly.
        for works, wish, prices in cases(333, 60, 5):
            works = works[:2] + ((),) + works[3:]
            if can_move(works, wish):
                mean = Fraction(*mean_cost(works, wish, prices))
                costs = {first_of(works): 0}
                alive = {pair for pair in told_standings(works, wish) if pair not in made_gone(works, wish)}
                for _ in range(200):
                    longer = {}
                    for pair, cost in costs.items():
                        for deed in range(works[0]):
                            after = told_good(works, wish, pair, deed)
                            if after in alive:
                                longer[after] = min(longer.get(after, 10 ** 9), cost + prices[deed])
                    costs = longer
                self.assertLess(abs(Fraction(min(costs.values()), 200) - mean), Fraction(1, 2))

    def test_lowest_terms(self):
        for works, wish, prices in great_cases(334, 300):
            found = outcome(mean_cost, works, wish, prices)
            if found[0] == "ok":
                above, below = found[1]
                self.assertTrue(type(above) is int and type(below) is int and math.gcd(above, below) == 1 and above >= 0)
                self.assertTrue(1 <= below <= len(told_standings(works, wish)) and above <= 9 * below)

    def test_nothing(self):
        for call in CALLS:
            self.assertEqual(outcome(call, STILL, (((0,),), (0,)), (1,)), ("Nothing",))
            self.assertEqual(outcome(call, PIT, ALL2, (1, 1)), ("Nothing",))
            # Behind the errors of arguments.
            self.assertEqual(outcome(call, PIT, ALL2, (1, 10)), ("OutOfPlace",))
            self.assertEqual(outcome(call, PIT, None, None), ("BadWish", "form"))

    def test_wrong_prices(self):
        for prices in junk() + [(0,), (0, 0, 0), (0, 10), (0, -1), (True, 0), (0, 1.0), [0, 0]]:
            if not (told_tuple(prices, 2, 2) and all(told_int(price, 0, 9) for price in prices)):
                for call in CALLS:
                    self.assertEqual(outcome(call, TWO_WAYS, ALL2, prices), ("OutOfPlace",), prices)
        for call in CALLS:
            self.assertEqual(outcome(call, None, None, None), ("BadWorks", "form"))
            self.assertEqual(outcome(call, MANY, None, None), ("TooMany", 24))
            self.assertEqual(outcome(call, CUBE, None, None), ("BadWish", "form"))
        self.assertEqual(outcome(can_move, CUBE, None), ("BadWish", "form"))


class Papers(unittest.TestCase):
    def test_by_chance(self):
        # There is one of each word for the MEAN alone, so both together tell that it is right.
        none = 0
        for works, wish, prices in great_cases(335, 400):
            found = outcome(mean_cost, works, wish, prices)
            if found[0] != "ok":
                none += 1
                continue
            for call, word in ((most_paper, "most"), (least_paper, "least")):
                paper = call(works, wish, prices)
                self.assertEqual(paper[:2], (word, found[1]))
                self.assertEqual(check_mean(works, wish, prices, paper), word)
                self.assertEqual(told_check_mean(works, wish, prices, paper), ("ok", word))
        self.assertTrue(20 < none < 300, none)

    def test_not_for_better_fractions(self):
        for works, wish, prices in great_cases(336, 100):
            if outcome(mean_cost, works, wish, prices)[0] != "ok":
                continue
            above, below = mean_cost(works, wish, prices)
            most, least = most_paper(works, wish, prices), least_paper(works, wish, prices)
            for other in ((above * 100 - 1, below * 100), (above * 100 + 1, below * 100)):
                common = math.gcd(*other)
                mean = (other[0] // common, other[1] // common)
                if mean[0] >= 0:
                    thing = ("most", mean, most[2])
                    self.assertEqual(outcome(check_mean, works, wish, prices, thing), told_check_mean(works, wish, prices, thing))
                    thing = ("least", mean, *least[2:])
                    self.assertEqual(outcome(check_mean, works, wish, prices, thing), told_check_mean(works, wish, prices, thing))

    def test_what_is_gone_is_told(self):
        # Deed 1 leads to a still place, deed 2 out of the wish.
        works = (3, (((0, 1, 2), (((0, 0), (1, 1), (2, 0)), ())),), (), ((),))
        wish = (((0, 0, 1), (1, 1, 1)), (0,))
        paper = least_paper(works, wish, (4, 0, 0))
        self.assertEqual(paper, ("least", (4, 1), ((((1,), 0), 0),), ((FIRST, None, 0),)))
        self.assertEqual(most_paper(works, wish, (4, 0, 0)), ("most", (4, 1), ((FIRST, (0,), 0),)))

    def test_what_a_run_costs(self):
        # Along the rows of a paper B times what a RUN costs is A times its deeds at most, and the height.
        for works, wish, prices in great_cases(337, 60):
            if outcome(mean_cost, works, wish, prices)[0] != "ok":
                continue
            _, (above, below), table = most_paper(works, wish, prices)
            lets = {pair: deeds for pair, deeds, _ in table}
            height = {pair: more for pair, _, more in table}[first_of(works)]
            for run in told_runs(works, 4):
                pair, is_let = first_of(works), told_wished(wish, run)
                for deed in run:
                    is_let = is_let and deed in lets.get(pair, ())
                    pair = told_good(works, wish, pair, deed) if is_let else None
                if is_let:
                    self.assertLessEqual(below * sum(prices[deed] for deed in run), above * len(run) + height)
                    self.assertEqual(pair[0], told_place(works, run))


if __name__ == "__main__":
    unittest.main()
