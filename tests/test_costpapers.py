"""[70] to [73] Papers on MEANS and on TOTALS: worksward/costpapers.py. The papers are made here, by slow ways."""

import itertools
import math
import unittest

from common import (CUBE, MANY, Odd, RING, SHARED, STILL, chance_of, hold_papers, junk, no_papers, outcome, some_lot, some_wish,
                    some_works, told_ascending, told_do, told_goal, told_int, told_is_pair, told_judged, told_lot,
                    told_next, told_standings, told_start, told_tuple)
from worksward.costpapers import check_mean, check_total

ALL2 = (((0, 0),), (0,))
# Deed 0 goes round for its price, deed 1 goes to and fro.
TWO_WAYS = (2, (((0, 1), (((0, 0), (1, 1)), ((1, 0),))),), (), ((1,),))
# Deed 1 cannot be stopped.
FREE_1 = TWO_WAYS[:2] + ((1,),) + TWO_WAYS[3:]
FIRST = ((0,), 0)
OTHER = ((1,), 0)


# ---------------------------------------------------------------- papers told again

def told_ways(works, wish, pair):
    """The deeds that can be done at a PAIR, each with the PAIR behind it, or "out"."""
    found = {deed: told_next(works, wish, pair, deed) for deed in range(works[0])}
    return {deed: after for deed, after in found.items() if after is not None}


def told_free(works, ways):
    return [deed for deed in ways if deed in works[2]]


def told_rows(works, wish, thing, many):
    return (type(thing) is tuple and all(told_tuple(row, many, many) and told_is_pair(works, wish, row[0]) for row in thing)
            and told_ascending([row[0] for row in thing]))


def told_count(thing):
    return type(thing) is int and thing >= 0


def told_choice(works, ways, deeds):
    return told_lot(deeds, works[0]) and deeds != () and set(deeds) <= set(ways) and set(told_free(works, ways)) <= set(deeds)


def told_check_mean(works, wish, prices, paper):
    def holds():
        mean = paper[1]
        if not told_tuple(mean, 2, 2) or not told_count(mean[0]) or type(mean[1]) is not int or mean[1] < 1:
            return False
        if math.gcd(*mean) != 1:
            return False
        call = told_most if paper[0] == "most" else told_least
        return call(works, wish, prices, *paper[1:])
    return told_judged({"most": 3, "least": 4}, paper, holds)


def told_most(works, wish, prices, mean, table):
    if not told_rows(works, wish, table, 3) or not all(told_count(row[2]) for row in table):
        return False
    heights = {row[0]: row[2] for row in table}
    for pair, deeds, height in table:
        ways = told_ways(works, wish, pair)
        if not told_choice(works, ways, deeds):
            return False
        for deed in deeds:
            if ways[deed] not in heights or mean[1] * prices[deed] - mean[0] > height - heights[ways[deed]]:
                return False
    return (told_start(works), 0) in heights


def told_least(works, wish, prices, mean, gone, table):
    if not told_rows(works, wish, gone, 2) or not told_rows(works, wish, table, 3):
        return False
    if not all(told_count(row[1]) for row in gone) or not all(told_count(row[2]) for row in table):
        return False
    ranks = dict(gone)
    heights = {row[0]: row[2] for row in table}
    for pair, rank in gone:
        ways = told_ways(works, wish, pair)
        away = [deed for deed, after in ways.items() if after == "out" or ranks.get(after, rank) < rank]
        free = told_free(works, ways)
        if free and not set(free) & set(away) or not free and set(away) != set(ways):
            return False
    for pair, deed, height in table:
        ways = told_ways(works, wish, pair)
        free = told_free(works, ways)
        if deed is None:
            chosen = list(ways)
            if free:
                return False
        elif type(deed) is not int or deed not in free:
            return False
        else:
            chosen = [deed]
        for way in chosen:
            after = ways[way]
            if after != "out" and after not in ranks:
                if after not in heights or heights[after] - height > mean[1] * prices[way] - mean[0]:
                    return False
    return (told_start(works), 0) in heights


def told_check_total(works, wish, prices, paper):
    def holds():
        return told_count(paper[1]) and (told_total if paper[0] == "total" else told_more)(works, wish, prices, *paper[1:])
    return told_judged({"total": 3, "more": 3}, paper, holds)


def told_total(works, wish, prices, total, table):
    if not told_rows(works, wish, table, 4) or not all(told_count(row[2]) and told_count(row[3]) for row in table):
        return False
    known = {row[0]: row for row in table}
    for pair, deeds, left, many in table:
        if told_goal(works, pair[0]):
            if type(deeds) is not tuple or deeds != ():
                return False
            continue
        ways = told_ways(works, wish, pair)
        if not told_choice(works, ways, deeds):
            return False
        for deed in deeds:
            if ways[deed] not in known or known[ways[deed]][3] >= many or known[ways[deed]][2] + prices[deed] > left:
                return False
    return (told_start(works), 0) in known and known[(told_start(works), 0)][2] <= total


def told_more(works, wish, prices, total, table):
    if not told_rows(works, wish, table, 2):
        return False
    for pair, low in table:
        if told_goal(works, pair[0]) or low is not None and (type(low) is not int or low < 1):
            return False
    lows = dict(table)
    endless = 10 ** 3000

    def owed(pair):
        if pair == "out" or pair in lows and lows[pair] is None:
            return endless
        return lows.get(pair, 0)
    for pair in lows:
        ways = told_ways(works, wish, pair)
        free = told_free(works, ways)
        debts = {deed: owed(after) if owed(after) == endless else owed(after) + prices[deed] for deed, after in ways.items()}
        if free and max(debts[deed] for deed in free) < owed(pair):
            return False
        if not free and any(debt < owed(pair) for debt in debts.values()):
            return False
    return (told_start(works), 0) in lows and owed((told_start(works), 0)) > total


# ---------------------------------------------------------------- papers made

def made_gone(works, wish):
    """A RANK of each PAIR that comes from which no GUARD keeps the WISH moving."""
    ranks = {}
    for rank in range(1000):
        fresh = []
        for pair in told_standings(works, wish):
            ways = told_ways(works, wish, pair)
            away = [deed for deed, after in ways.items() if after == "out" or after in ranks]
            free = told_free(works, ways)
            if pair not in ranks and (any(deed in away for deed in free) if free else len(away) == len(ways)):
                fresh.append(pair)
        if not fresh:
            return ranks
        ranks.update({pair: rank for pair in fresh})


def made_choices(works, wish, gone, is_guard):
    """All ways to choose at each PAIR that stays: a GUARD one deed, or all of FREE; against it one of FREE, or all."""
    pairs = sorted(pair for pair in told_standings(works, wish) if pair not in gone)
    options = []
    for pair in pairs:
        ways = told_ways(works, wish, pair)
        free = told_free(works, ways)
        stay = [deed for deed in ways if ways[deed] != "out" and ways[deed] not in gone]
        if is_guard:
            options.append([tuple(free)] if free else [(deed,) for deed in stay])
        else:
            options.append([(deed,) for deed in free] if free else [None])
    for chosen in itertools.product(*options):
        yield dict(zip(pairs, chosen))


def made_graph(works, wish, prices, gone, choice):
    """The PAIRS that come by a choice, each with pairs of a PAIR behind it that stays, and a price."""
    graph = {}
    waiting = [(told_start(works), 0)]
    while waiting:
        pair = waiting.pop()
        if pair not in graph:
            ways = told_ways(works, wish, pair)
            deeds = ways if choice[pair] is None else choice[pair]
            graph[pair] = [(ways[deed], prices[deed]) for deed in deeds if ways[deed] != "out" and ways[deed] not in gone]
            waiting += [after for after, _ in graph[pair]]
    return graph


def made_rings(graph):
    """The means of all rings without a ring in them."""
    found = set()
    for first in graph:
        waiting = [(first, 0, 0, (first,))]
        while waiting:
            at, cost, many, way = waiting.pop()
            for after, price in graph[at]:
                if after == first:
                    common = math.gcd(cost + price, many + 1)
                    found.add(((cost + price) // common, (many + 1) // common))
                elif after not in way:
                    waiting.append((after, cost + price, many + 1, way + (after,)))
    return found


def greater(one, two):
    return one[0] * two[1] > two[0] * one[1]


def greatest(fractions):
    best = None
    for fraction in fractions:
        if best is None or greater(fraction, best):
            best = fraction
    return best


def made_mean(works, wish, prices, gone):
    """The MEAN, and a choice of a GUARD that has it."""
    best = None
    for choice in made_choices(works, wish, gone, True):
        mean = greatest(made_rings(made_graph(works, wish, prices, gone, choice)))
        if best is None or greater(best[0], mean):
            best = (mean, choice)
    return best


def made_heights(graph, mean, sign):
    """Heights along which each deed costs what is told of the mean at most, or, with sign -1, at least; or None."""
    heights = {pair: 0 for pair in graph}
    for _ in range(len(graph) + 1):
        old = dict(heights)
        for pair, steps in graph.items():
            for after, price in steps:
                heights[pair] = max(heights[pair], heights[after] + sign * (mean[1] * price - mean[0]))
        if old == heights:
            return heights
    return None


def made_most(works, wish, prices, mean, gone, choice):
    graph = made_graph(works, wish, prices, gone, choice)
    heights = made_heights(graph, mean, 1)
    if heights is None:
        return None
    return ("most", mean, tuple(sorted((pair, choice[pair], height) for pair, height in heights.items())))


def made_least(works, wish, prices, mean, gone):
    """A paper with "least", or None if there is none."""
    for choice in made_choices(works, wish, gone, False):
        graph = made_graph(works, wish, prices, gone, choice)
        heights = made_heights(graph, mean, -1)
        if heights is not None:
            rows = [(pair, None if choice[pair] is None else choice[pair][0], height) for pair, height in heights.items()]
            return ("least", mean, tuple(sorted(gone.items())), tuple(sorted(rows)))
    return None


def made_totals(works, wish, prices):
    """What a GUARD brings each PAIR that comes to a GOAL for, of all PAIRS from which one does."""
    pairs = told_standings(works, wish)
    best = {pair: 0 for pair in pairs if told_goal(works, pair[0])}
    for _ in range(20 * len(pairs)):
        old = dict(best)
        for pair in pairs:
            ways = told_ways(works, wish, pair)
            free = told_free(works, ways)
            costs = [old[after] + prices[deed] if after in old else None for deed, after in ways.items() if not free or deed in free]
            if not told_goal(works, pair[0]) and costs:
                if free and None not in costs:
                    best[pair] = max(costs)
                elif not free and any(cost is not None for cost in costs):
                    best[pair] = min(cost for cost in costs if cost is not None)
    return best


def made_total(works, wish, prices, totals):
    """The rows of a paper with "total"."""
    rows = {}
    many = 0
    while True:
        fresh = []
        for pair in totals:
            ways = told_ways(works, wish, pair)
            free = told_free(works, ways)
            if pair in rows:
                continue
            if told_goal(works, pair[0]):
                fresh.append((pair, (), 0, many))
                continue
            can = [deed for deed, after in ways.items() if after in rows and totals[after] + prices[deed] <= totals[pair]]
            if free and set(free) <= set(can):
                fresh.append((pair, tuple(free), totals[pair], many))
            elif not free and can:
                fresh.append((pair, (can[0],), totals[pair], many))
        if not fresh:
            return tuple(sorted(rows.values()))
        rows.update({row[0]: row for row in fresh})
        many += 1


def made_more(works, wish, totals):
    rows = []
    for pair in told_standings(works, wish):
        if totals.get(pair) != 0:
            rows.append((pair, totals.get(pair)))
    return tuple(sorted(rows))


def cases(seed, many, most=6):
    chance = chance_of(seed)
    found = 0
    while found < many:
        works = some_works(chance, chance.randint(2, 3), chance.randint(1, 2), most=3, part=0.8)
        goals = tuple(some_lot(chance, len(part[1]), 0.5) for part in works[1])
        works = works[:2] + (some_lot(chance, works[0], 0.3), goals)
        wish = some_wish(chance, works[0], 3, part=0.7)
        prices = tuple(chance.randint(0, 9) for _ in range(works[0]))
        if 2 <= len(told_standings(works, wish)) <= most:
            found += 1
            yield works, wish, prices


class Prices(unittest.TestCase):
    def test_what_is_none(self):
        for prices in junk() + [(), (0,), (0, 0, 0), (0, 10), (0, -1), (True, 0), (0, 1.0), [0, 0], None, (0, None), "00"]:
            if not (told_tuple(prices, 2, 2) and all(told_int(price, 0, 9) for price in prices)):
                self.assertEqual(outcome(check_mean, TWO_WAYS, ALL2, prices, None), ("OutOfPlace",), prices)
                self.assertEqual(outcome(check_total, TWO_WAYS, ALL2, prices, None), ("OutOfPlace",), prices)
        for prices in ((0, 0), (9, 9), (0, 9)):
            self.assertEqual(outcome(check_mean, TWO_WAYS, ALL2, prices, None), ("BadPaper", "form"))

    def test_order_of_errors(self):
        for check in (check_mean, check_total):
            self.assertEqual(outcome(check, None, None, None, None), ("BadWorks", "form"))
            self.assertEqual(outcome(check, MANY, None, None, None), ("TooMany", 24))
            self.assertEqual(outcome(check, CUBE, None, None, None), ("BadWish", "form"))
            self.assertEqual(outcome(check, CUBE, (((0, 0, 0),), (0,)), None, None), ("OutOfPlace",))

    def test_no_papers(self):
        for thing in no_papers({"most": 2, "least": 3}):
            self.assertEqual(outcome(check_mean, TWO_WAYS, ALL2, (1, 2), thing), ("BadPaper", "form"), thing)
        for thing in no_papers({"total": 2, "more": 2}):
            self.assertEqual(outcome(check_total, TWO_WAYS, ALL2, (1, 2), thing), ("BadPaper", "form"), thing)


class Means(unittest.TestCase):
    def test_most(self):
        # Deed 0 alone costs 3 each time; deed 1 alone 1.
        table = ((FIRST, (1,), 0), (OTHER, (1,), 0))
        for paper, is_so in ((("most", (1, 1), table), True), (("most", (3, 1), ((FIRST, (0,), 0),)), True),
                             (("most", (2, 1), table), True), (("most", (2, 3), table), False), (("most", (2, 2), table), False),
                             (("most", (5, 2), ((FIRST, (0,), 0),)), False), (("most", (3, 1), ((FIRST, (0, 1), 0), (OTHER, (1,), 0))), True),
                             (("most", (3, 1), ((FIRST, (0, 1), 0),)), False), (("most", (3, 1), ((FIRST, (1, 0), 0), (OTHER, (1,), 0))), False),
                             (("most", (1, 1), ((FIRST, (1,), 0), (OTHER, (), 0))), False), (("most", (1, 1), table[1:]), False),
                             (("most", (1, 1), ((FIRST, (1,), 0), (OTHER, (0,), 0))), False), (("most", (1, 1), table[::-1]), False),
                             (("most", [1, 1], table), False), (("most", (1, 0), table), False), (("most", (1, True), table), False),
                             (("most", (True, 1), table), False), (("most", (-1, 1), table), False), (("most", (1.0, 1), table), False),
                             (("most", (1, 1, 1), table), False), (("most", None, table), False), (("most", (10 ** 900, 1), table), True),
                             (("most", (10 ** 40, 10 ** 41 + 1), table), False), (("most", (1, 1), ((FIRST, (1,), 10 ** 50), (OTHER, (1,), 10 ** 50))), True),
                             (("most", (1, 1), ((FIRST, (1,), -1), (OTHER, (1,), -1))), False), (("most", (1, 1), ((FIRST, (1,), False), (OTHER, (1,), 0))), False)):
            due = ("ok", "most") if is_so else ("BadPaper", "most")
            self.assertEqual(outcome(check_mean, TWO_WAYS, ALL2, (3, 1), paper), due, paper)
            self.assertEqual(told_check_mean(TWO_WAYS, ALL2, (3, 1), paper), due, paper)

    def test_most_with_free_deeds(self):
        self.assertEqual(outcome(check_mean, FREE_1, ALL2, (3, 1), ("most", (3, 1), ((FIRST, (0,), 0),))), ("BadPaper", "most"))
        self.assertEqual(check_mean(FREE_1, ALL2, (3, 1), ("most", (3, 1), ((FIRST, (0, 1), 0), (OTHER, (1,), 0)))), "most")
        self.assertEqual(check_mean(FREE_1, ALL2, (3, 1), ("most", (1, 1), ((FIRST, (1,), 0), (OTHER, (1,), 0)))), "most")

    def test_zero(self):
        self.assertEqual(check_mean(TWO_WAYS, ALL2, (0, 1), ("most", (0, 1), ((FIRST, (0,), 0),))), "most")
        self.assertEqual(outcome(check_mean, TWO_WAYS, ALL2, (0, 1), ("most", (0, 2), ((FIRST, (0,), 0),))), ("BadPaper", "most"))
        self.assertEqual(check_mean(TWO_WAYS, ALL2, (9, 9), ("least", (0, 1), (), ((FIRST, None, 0), (OTHER, None, 0)))), "least")

    def test_least(self):
        table = ((FIRST, None, 0), (OTHER, None, 0))
        for paper, is_so in ((("least", (1, 1), (), table), True), (("least", (1, 2), (), table), True), (("least", (3, 2), (), table), False),
                             (("least", (1, 1), (), table[:1]), False), (("least", (1, 1), (), table[1:]), False),
                             (("least", (1, 1), (), ((FIRST, 1, 0), (OTHER, None, 0))), False), (("least", (1, 1), [], table), False),
                             (("least", (1, 1), ((OTHER, 0),), table[:1]), False), (("least", (1, 1), None, table), False),
                             (("least", (1, 1), (), ((FIRST, None, -5), (OTHER, None, -5))), False), (("least", (2, 2), (), table), False),
                             (("least", (1, 1), (), ((FIRST, None, 10 ** 99), (OTHER, None, 10 ** 99))), True),
                             (("least", (1, 1), (), ((FIRST, False, 0), (OTHER, None, 0))), False)):
            due = ("ok", "least") if is_so else ("BadPaper", "least")
            self.assertEqual(outcome(check_mean, TWO_WAYS, ALL2, (3, 1), paper), due, paper)
            self.assertEqual(told_check_mean(TWO_WAYS, ALL2, (3, 1), paper), due, paper)

    def test_free_deeds_against_the_guard(self):
        for first, is_so in ((1, True), (0, False), (None, False), (True, False), (1.0, False), (2, False)):
            due = ("ok", "least") if is_so else ("BadPaper", "least")
            paper = ("least", (1, 1), (), ((FIRST, first, 0), (OTHER, 1, 0)))
            self.assertEqual(outcome(check_mean, FREE_1, ALL2, (3, 1), paper), due)

    def test_gone(self):
        # From the last place nothing can be done; to the one ahead of it 1 leads, which can be stopped, or not.
        works = (2, (((0, 1), (((0, 0), (1, 1)), ((1, 2),), ())),), (), ((),))
        gone = ((((1,), 0), 1), (((2,), 0), 0))
        self.assertEqual(check_mean(works, ALL2, (4, 1), ("least", (4, 1), gone, ((FIRST, None, 0),))), "least")
        self.assertEqual(outcome(check_mean, works, ALL2, (4, 1), ("least", (4, 1), gone[1:], ((FIRST, None, 0),))), ("BadPaper", "least"))
        for one, two, is_so in ((1, 0, True), (9, 3, True), (0, 0, False), (0, 1, False), (1, True, False), (1, -1, False), (None, 0, False)):
            due = ("ok", "least") if is_so else ("BadPaper", "least")
            paper = ("least", (4, 1), ((((1,), 0), one), (((2,), 0), two)), ((FIRST, None, 0),))
            self.assertEqual(outcome(check_mean, works, ALL2, (4, 1), paper), due)
        self.assertEqual(outcome(check_mean, works, ALL2, (4, 1), ("least", (5, 1), gone + (), ((FIRST, None, 0),))), ("BadPaper", "least"))
        free = works[:2] + ((1,),) + works[3:]
        every = ((FIRST, 2),) + gone
        # A PAIR may stand in both; to what is gone a deed of FREE may lead, whatever it costs.
        self.assertEqual(check_mean(free, ALL2, (0, 0), ("least", (9, 1), every, ((FIRST, 1, 0),))), "least")
        self.assertEqual(outcome(check_mean, free, ALL2, (0, 0), ("least", (9, 1), every, ((FIRST, 0, 0),))), ("BadPaper", "least"))

    def test_by_chance(self):
        found = {}
        for works, wish, prices in cases(220, 150):
            gone = made_gone(works, wish)
            if (told_start(works), 0) in gone:
                # No GUARD keeps it moving: there is a paper with "least" for any fraction.
                for mean in ((0, 1), (9, 1), (50, 7)):
                    rows = []
                    for pair in sorted(gone):
                        ways = told_ways(works, wish, pair)
                        away = [deed for deed in told_free(works, ways) if ways[deed] == "out" or ways[deed] in gone]
                        rows.append((pair, away[0] if away else None, 0))
                    paper = ("least", mean, tuple(sorted(gone.items())), tuple(rows))
                    self.assertEqual(told_check_mean(works, wish, prices, paper), ("ok", "least"))
                    self.assertEqual(outcome(check_mean, works, wish, prices, paper), ("ok", "least"))
                found["gone"] = found.get("gone", 0) + 1
                continue
            mean, choice = made_mean(works, wish, prices, gone)
            for fraction in (mean, (mean[0] + 1, mean[1]), (2 * mean[0] + 1, 2 * mean[1]), (max(0, 2 * mean[0] - 1), 2 * mean[1])):
                common = math.gcd(*fraction)
                fraction = (fraction[0] // common, fraction[1] // common)
                most = made_most(works, wish, prices, fraction, gone, choice)
                least = made_least(works, wish, prices, fraction, gone)
                self.assertEqual(most is not None, not greater(mean, fraction))
                self.assertEqual(least is not None, not greater(fraction, mean))
                for paper in (most, least):
                    if paper is not None:
                        self.assertEqual(outcome(check_mean, works, wish, prices, paper), ("ok", paper[0]))
                        found[paper[0]] = found.get(paper[0], 0) + 1
        self.assertTrue(min(found[word] for word in ("gone", "most", "least")) > 10, found)

    def test_papers_that_are_otherwise(self):
        chance = chance_of(221)
        many = {}
        for works, wish, prices in cases(222, 80, 5):
            gone = made_gone(works, wish)
            if (told_start(works), 0) in gone:
                continue
            mean, choice = made_mean(works, wish, prices, gone)
            for paper in (made_most(works, wish, prices, mean, gone, choice), made_least(works, wish, prices, mean, gone)):
                hold_papers(self, check_mean, told_check_mean, (works, wish, prices), paper, chance, 100, many)
                for _ in range(6):
                    other = tuple(chance.randint(0, 9) for _ in prices)
                    near = works[:2] + (some_lot(chance, works[0], 0.3),) + works[3:]
                    for args in ((works, wish, other), (near, wish, prices)):
                        self.assertEqual(outcome(check_mean, *args, paper), told_check_mean(*args, paper))
        self.assertTrue(min(many.values()) > 20, many)


class Totals(unittest.TestCase):
    def test_total(self):
        rows = ((FIRST, (1,), 1, 1), (OTHER, (), 0, 0))
        for paper, is_so in ((("total", 1, rows), True), (("total", 2, rows), True), (("total", 0, rows), False), (("total", True, rows), False),
                             (("total", 1.0, rows), False), (("total", -1, rows), False), (("total", None, rows), False),
                             (("total", 1, rows[:1]), False), (("total", 1, rows[1:]), False), (("total", 10 ** 99, rows), True),
                             (("total", 1, ((FIRST, (1,), 1, 0), (OTHER, (), 0, 0))), False), (("total", 1, ((FIRST, (1,), 0, 1), (OTHER, (), 0, 0))), False),
                             (("total", 1, ((FIRST, (), 1, 1), (OTHER, (), 0, 0))), False), (("total", 1, ((FIRST, (1,), 1, 1), (OTHER, (1,), 0, 0))), False),
                             (("total", 1, ((FIRST, (1,), 1, 1), (OTHER, (), -1, 0))), False), (("total", 1, ((FIRST, (1,), 1, 1), (OTHER, (), 0, -1))), False),
                             (("total", 9, ((FIRST, (0, 1), 9, 9), (OTHER, (), 0, 0))), False), (("total", 1, ((FIRST, (1,), 1, 1), (OTHER, None, 0, 0))), False),
                             (("total", 4, ((FIRST, (1,), 4, 7), (OTHER, (), 3, 6))), True), (("total", 3, ((FIRST, (1,), 4, 7), (OTHER, (), 3, 6))), False)):
            due = ("ok", "total") if is_so else ("BadPaper", "total")
            self.assertEqual(outcome(check_total, TWO_WAYS, ALL2, (3, 1), paper), due, paper)
            self.assertEqual(told_check_total(TWO_WAYS, ALL2, (3, 1), paper), due, paper)

    def test_a_total_of_0(self):
        self.assertEqual(check_total(TWO_WAYS, ALL2, (3, 0), ("total", 0, ((FIRST, (1,), 0, 1), (OTHER, (), 0, 0)))), "total")
        goal = TWO_WAYS[:3] + (((0,),),)
        self.assertEqual(check_total(goal, ALL2, (9, 9), ("total", 0, ((FIRST, (), 0, 0),))), "total")
        self.assertEqual(outcome(check_total, goal, ALL2, (9, 9), ("more", 0, ((FIRST, 1),))), ("BadPaper", "more"))
        self.assertEqual(outcome(check_total, goal, ALL2, (9, 9), ("more", 0, ())), ("BadPaper", "more"))

    def test_more(self):
        for rows, total, is_so in ((((FIRST, 1),), 0, True), (((FIRST, 2),), 1, False), (((FIRST, 1),), 1, False), (((FIRST, None),), 0, False),
                                   (((FIRST, 0),), 0, False), (((FIRST, True),), 0, False), (((FIRST, 1.0),), 0, False), ([(FIRST, 1)], 0, False),
                                   (((FIRST, 1), (OTHER, 1)), 0, False), ((), 0, False), (((FIRST, -1),), 0, False), (((FIRST, 1, 1),), 0, False)):
            due = ("ok", "more") if is_so else ("BadPaper", "more")
            self.assertEqual(outcome(check_total, TWO_WAYS, ALL2, (3, 1), ("more", total, rows)), due, rows)
            self.assertEqual(told_check_total(TWO_WAYS, ALL2, (3, 1), ("more", total, rows)), due, rows)

    def test_more_without_end(self):
        none = TWO_WAYS[:3] + (((),),)
        rows = ((FIRST, None), (OTHER, None))
        for total in (0, 7, 10 ** 99):
            self.assertEqual(check_total(none, ALL2, (0, 0), ("more", total, rows)), "more")
        self.assertEqual(outcome(check_total, none, ALL2, (0, 0), ("more", 0, rows[:1])), ("BadPaper", "more"))
        # Deeds of FREE: one of them is enough; and what is not good owes None.
        free = TWO_WAYS[:2] + ((0,),) + TWO_WAYS[3:]
        self.assertEqual(check_total(free, ALL2, (0, 0), ("more", 5, ((FIRST, None),))), "more")
        self.assertEqual(outcome(check_total, FREE_1, ALL2, (0, 0), ("more", 5, ((FIRST, None),))), ("BadPaper", "more"))
        shut = (((0, 1), (1, 1)), (0,))
        self.assertEqual(check_total(FREE_1, shut, (0, 0), ("more", 5, ((FIRST, None),))), "more")
        self.assertEqual(check_total(STILL, (((0,),), (0,)), (0,), ("more", 5, ((FIRST, None),))), "more")

    def test_pairs_that_need_not_come(self):
        works = (1, (((0,), (((0, 1),), (), ((0, 1),))),), (), ((1,),))
        rows = ((FIRST, (0,), 2, 1), (OTHER, (), 0, 0), (((2,), 0), (0,), 5, 3))
        self.assertEqual(check_total(works, (((0,),), (0,)), (2,), ("total", 2, rows)), "total")
        self.assertEqual(check_total(works, (((0,),), (0,)), (2,), ("more", 1, ((FIRST, 2), (((2,), 0), 2)))), "more")
        for low in (1, 2, 0, -1, True, 3, None, 1.0, "1", (1,)):
            paper = ("more", 1, ((FIRST, 2), (((2,), 0), low)))
            due = ("ok", "more") if type(low) is int and 1 <= low <= 2 else ("BadPaper", "more")
            self.assertEqual(outcome(check_total, works, (((0,),), (0,)), (2,), paper), due, low)

    def test_deeds_that_cannot_be_done(self):
        for deeds in ((0, 1), (0,), (2,), (1, 2)):
            paper = ("most", (3, 1), ((FIRST, (1,), 0), (OTHER, deeds, 0)))
            self.assertEqual(outcome(check_mean, TWO_WAYS, ALL2, (3, 1), paper), ("BadPaper", "most"))
            none = TWO_WAYS[:3] + (((),),)
            paper = ("total", 9, ((FIRST, (1,), 9, 9), (OTHER, deeds, 5, 5)))
            self.assertEqual(outcome(check_total, none, ALL2, (3, 1), paper), ("BadPaper", "total"))

    def test_by_chance(self):
        found = {}
        chance = chance_of(223)
        many = {}
        for works, wish, prices in cases(224, 250):
            totals = made_totals(works, wish, prices)
            first = totals.get((told_start(works), 0))
            table = made_total(works, wish, prices, totals)
            more = made_more(works, wish, totals)
            for total in {0, 3, 10 ** 20, first or 0, max(0, (first or 0) - 1)}:
                can = first is not None and first <= total
                for paper, is_so in ((("total", total, table), can), (("more", total, more), not can)):
                    due = ("ok", paper[0]) if is_so else ("BadPaper", paper[0])
                    self.assertEqual(outcome(check_total, works, wish, prices, paper), due)
                    self.assertEqual(told_check_total(works, wish, prices, paper), due)
                    found[due] = found.get(due, 0) + 1
                    if is_so and chance.random() < 0.2:
                        hold_papers(self, check_total, told_check_total, (works, wish, prices), paper, chance, 60, many)
                        other = tuple(chance.randint(0, 9) for _ in prices)
                        near = works[:2] + (some_lot(chance, works[0], 0.3),) + works[3:]
                        for args in ((works, wish, other), (near, wish, prices)):
                            self.assertEqual(outcome(check_total, *args, paper), told_check_total(*args, paper))
        self.assertTrue(min(found.values()) > 50 and min(many.values()) > 20, (found, many))


if __name__ == "__main__":
    unittest.main()
