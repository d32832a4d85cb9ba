"""[72], [73] The LEAST TOTAL, and papers on TOTALS: worksward/totals.py."""

import unittest

from common import (CUBE, MANY, RING, STILL, Equal, Odd, chance_of, junk, outcome, some_lot, some_wish, some_works, told_good, told_goal,
                    told_int, told_start, told_tuple)
from test_costpapers import ALL2, FREE_1, TWO_WAYS, cases, made_totals, told_check_total
from worksward.costpapers import check_total
from worksward.totals import least_total, total_paper

GOAL_AT_FIRST = RING[:3] + (((0,),),)


def told_least(works, wish, prices):
    return made_totals(works, wish, prices).get((told_start(works), 0))


def great_cases(seed, many):
    chance = chance_of(seed)
    for _ in range(many):
        deeds = chance.randint(1, 5)
        works = some_works(chance, deeds, chance.randint(1, 2), most=4, part=chance.choice([0.7, 1.0]))
        goals = tuple(some_lot(chance, len(part[1]), 0.4) for part in works[1])
        works = works[:2] + (some_lot(chance, deeds, chance.choice([0.1, 0.3, 0.6])), goals)
        yield works, some_wish(chance, deeds, 4, chance.choice([0.8, 1.0])), tuple(chance.randint(0, 9) for _ in range(deeds))


class Totals(unittest.TestCase):
    def test_ordinary(self):
        for works, wish, prices, due in ((RING, ALL2, (1, 9), 2), (RING, ALL2, (0, 9), 0), (RING, ALL2, (9, 0), 18), (GOAL_AT_FIRST, ALL2, (9, 9), 0),
                                         (TWO_WAYS, ALL2, (0, 4), 4), (FREE_1, ALL2, (0, 4), 4), (STILL, (((0,),), (0,)), (1,), None),
                                         (RING[:3] + (((),),), ALL2, (1, 1), None), (TWO_WAYS, (((0, 1), (1, 1)), (0,)), (1, 1), None)):
            self.assertEqual(least_total(works, wish, prices), due, (works, prices))

    def test_a_goal_at_the_first_place(self):
        # () has it, so nothing has to be let, not even wished.
        for wish in (ALL2, (((1, 1), (1, 1)), (0,))):
            self.assertEqual(least_total(GOAL_AT_FIRST, wish, (3, 3)), 0)
            self.assertEqual(total_paper(GOAL_AT_FIRST, wish, (3, 3), 0), ("total", 0, ((((0,), 0), (), 0, 0),)))

    def test_a_goal_must_be_wished(self):
        # Deed 1 leads to the GOAL and out.
        self.assertEqual(least_total(TWO_WAYS, (((0, 1), (0, 0)), (0,)), (1, 1)), None)
        self.assertEqual(least_total(TWO_WAYS, (((0, 1), (0, 0)), (0, 1)), (1, 1)), 1)

    def test_free_deeds_cost_the_most(self):
        # 0 to the GOAL, or 1 and 2; 0 and 1 cannot be stopped.
        works = (3, (((0, 1, 2), (((0, 2), (1, 1)), ((2, 2),), ())),), (0, 1), ((2,),))
        all3 = (((0, 0, 0),), (0,))
        for prices, due in (((5, 1, 1), 5), ((1, 5, 4), 9), ((0, 0, 0), 0), ((0, 0, 9), 9)):
            self.assertEqual(least_total(works, all3, prices), due)
        # Without FREE the least counts.
        for prices, due in (((5, 1, 1), 2), ((1, 5, 4), 1), ((0, 0, 0), 0)):
            self.assertEqual(least_total(works[:2] + ((),) + works[3:], all3, prices), due)

    def test_a_free_deed_that_leads_out_or_round(self):
        # 1 cannot be stopped, and stays for nothing: it may be done for ever.
        works = (2, (((0, 1), (((0, 1), (1, 0)), ())),), (1,), ((1,),))
        self.assertEqual(least_total(works, ALL2, (0, 0)), None)
        self.assertEqual(total_paper(works, ALL2, (0, 0), 10 ** 900)[0], "more")
        self.assertEqual(least_total(works, (((0, 1), (1, 1)), (0,)), (0, 0)), None)
        # Behind the GOAL it does no harm.
        works = (2, (((0, 1), (((0, 1),), ((1, 1),))),), (1,), ((1,),))
        self.assertEqual(least_total(works, (((0, 1), (1, 1)), (0,)), (3, 0)), 3)

    def test_rings_for_nothing(self):
        # Deed 0 goes round for nothing, which does not bring anywhere.
        works = (2, (((0, 1), (((0, 1),), ((0, 0), (1, 2)), ())),), (), ((2,),))
        self.assertEqual(least_total(works, ALL2, (0, 0)), 0)
        self.assertEqual(least_total(works, ALL2, (0, 7)), 7)
        self.assertEqual(least_total(works[:3] + (((),),), ALL2, (0, 0)), None)
        # A row does not tell a deed that stays, or goes back, though it costs nothing.
        for other in (works, TWO_WAYS):
            paper = total_paper(other, ALL2, (0, 0), 0)
            self.assertEqual(check_total(other, ALL2, (0, 0), paper), "total")

    def test_by_chance(self):
        seen = {}
        for works, wish, prices in cases(340, 250, 8):
            due = told_least(works, wish, prices)
            seen[due] = seen.get(due, 0) + 1
            self.assertEqual(least_total(works, wish, prices), due)
        for works, wish, prices in great_cases(341, 150):
            self.assertEqual(least_total(works, wish, prices), told_least(works, wish, prices))
        self.assertTrue(len(seen) > 8 and seen[None] > 20 and seen[0] > 20, seen)

    def test_the_cheapest_run_by_the_words(self):
        # Without deeds of FREE the LEAST TOTAL is what the cheapest RUN to a GOAL costs.
        for works, wish, prices in cases(342, 120, 6):
            works = works[:2] + ((),) + works[3:]
            best = {(told_start(works), 0): 0}
            for _ in range(12):
                for pair, cost in list(best.items()):
                    for deed in range(works[0]):
                        after = told_good(works, wish, pair, deed)
                        if after is not None:
                            best[after] = min(best.get(after, 10 ** 9), cost + prices[deed])
            costs = [cost for pair, cost in best.items() if told_goal(works, pair[0])]
            self.assertEqual(least_total(works, wish, prices), min(costs) if costs else None)


class Papers(unittest.TestCase):
    def test_by_chance(self):
        many = {"total": 0, "more": 0}
        for works, wish, prices in list(cases(343, 150, 8)) + list(great_cases(344, 200)):
            least = told_least(works, wish, prices)
            near = [0, 1, 10 ** 900] if least is None else [0, max(least - 1, 0), least, least + 1, 10 ** 900]
            for total in near:
                paper = total_paper(works, wish, prices, total)
                word = "total" if least is not None and least <= total else "more"
                many[word] += 1
                self.assertEqual(paper[:2], (word, total))
                self.assertEqual(check_total(works, wish, prices, paper), word)
                self.assertEqual(told_check_total(works, wish, prices, paper), ("ok", word))
        self.assertGreater(min(many.values()), 200)

    def test_for_other_totals(self):
        for works, wish, prices in cases(345, 100, 6):
            least = told_least(works, wish, prices)
            if least:
                table = total_paper(works, wish, prices, least)[2]
                more = total_paper(works, wish, prices, least - 1)[2]
                for total in (least - 1, least, least + 5):
                    for paper in (("total", total, table), ("more", total, more)):
                        self.assertEqual(outcome(check_total, works, wish, prices, paper), told_check_total(works, wish, prices, paper))
                self.assertEqual(outcome(check_total, works, wish, prices, ("total", least - 1, table)), ("BadPaper", "total"))
                self.assertEqual(outcome(check_total, works, wish, prices, ("more", least, more)), ("BadPaper", "more"))

    def test_wrong_totals(self):
        for total in junk() + [-1, True, False, 0.0, "0", None, (0,), [0], Odd(), Equal(), -10 ** 900]:
            if not told_int(total, 0, 10 ** 1000):
                self.assertEqual(outcome(total_paper, RING, ALL2, (1, 9), total), ("OutOfPlace",), total)
        self.assertEqual(total_paper(RING, ALL2, (1, 9), 10 ** 999)[:2], ("total", 10 ** 999))

    def test_wrong_prices(self):
        for prices in junk() + [(0,), (0, 0, 0), (0, 10), (0, -1), (True, 0), (0, 1.0), [0, 0]]:
            if not (told_tuple(prices, 2, 2) and all(told_int(price, 0, 9) for price in prices)):
                self.assertEqual(outcome(least_total, TWO_WAYS, ALL2, prices), ("OutOfPlace",), prices)
                self.assertEqual(outcome(total_paper, TWO_WAYS, ALL2, prices, None), ("OutOfPlace",), prices)
        for call, more in ((least_total, ()), (total_paper, (None,))):
            self.assertEqual(outcome(call, None, None, None, *more), ("BadWorks", "form"))
            self.assertEqual(outcome(call, MANY, None, None, *more), ("TooMany", 24))
            self.assertEqual(outcome(call, CUBE, None, None, *more), ("BadWish", "form"))


if __name__ == "__main__":
    unittest.main()
