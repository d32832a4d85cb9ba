"""[92], [93] PLANS of a LOG, the LEAST PLAN, starts and PARTED LOTS: worksward/leastlogs.py."""

import itertools
import unittest

from common import chance_of, junk, mutations, outcome, some_log, told_int, told_log, told_row, told_works
from test_logs import told_fits
from worksward.leastlogs import are_parted, least_log_plan, parted_lot
from worksward.logfits import do_fit
from worksward.wishes import standings

PLAIN = (((0, 1), 0, (0, 1, 1), "done"), ((0, 1), 0, (1,), "never"))


def entry(deeds, row, word="done"):
    return (tuple(range(deeds)), 0, row, word)


def all_wishing(deeds):
    return (((0,) * deeds,), (0,))


def works_by(deeds, rows):
    return (deeds, ((tuple(range(deeds)), rows),), (), ((),))


def told_least(deeds, log):
    """The LEAST PLAN by going through all of them."""
    for many in range(1, {1: 4, 2: 3, 3: 2}.get(deeds, 1) + 1):
        ways = itertools.product([None, *range(many)], repeat=deeds)
        rows = sorted(tuple((deed, to) for deed, to in enumerate(way) if to is not None) for way in ways)
        for chosen in itertools.product(rows, repeat=many):
            if told_fits(works_by(deeds, chosen), all_wishing(deeds), log):
                return (deeds, chosen, ())
    return None


def told_starts(log):
    return sorted({row[:k] for _, _, row, word in log if word == "done" for k in range(len(row) + 1)})


def told_parted(deeds, log, one, other):
    """Whether two starts are parted, by all rows that may stand behind."""
    starts = told_starts(log)
    nevers = [row for _, _, row, word in log if word == "never"]
    for first, second in ((one, other), (other, one)):
        for start in starts:
            if start[:len(first)] == first:
                whole = second + start[len(first):]
                if any(whole[:len(row)] == row for row in nevers):
                    return True
    return False


def told_lot(deeds, log):
    """The first PARTED LOT with the most starts, by growing lots."""
    starts = told_starts(log)
    friends = {pair for pair in itertools.product(starts, repeat=2) if told_parted(deeds, log, *pair)}
    best = ()
    layer = [(start,) for start in starts]
    while layer:
        best = min(layer)
        layer = [lot + (start,) for lot in layer for start in starts if start > lot[-1] and all((start, one) in friends for one in lot)]
    return best


class LeastPlans(unittest.TestCase):
    def test_one_number(self):
        self.assertEqual(least_log_plan(1, ()), (1, ((),), ()))
        self.assertEqual(least_log_plan(2, (entry(2, (1,)),)), (2, (((0, 0), (1, 0)),), ()))
        self.assertEqual(least_log_plan(2, (entry(2, (1,)), entry(2, (0,), "never"))), (2, (((1, 0),),), ()))
        self.assertEqual(least_log_plan(3, (entry(3, (0, 1)),)), (3, (((0, 0), (1, 0)),), ()))
        self.assertEqual(least_log_plan(6, (entry(6, (5, 3)), entry(6, (1, 5), "never"), entry(6, (4, 2, 0), "never"))),
                         (6, (((0, 0), (2, 0), (3, 0), (5, 0)),), ()))
        self.assertEqual(least_log_plan(4, (entry(4, (2,)), entry(4, (0, 1), "never"))), (4, (((0, 0), (2, 0)),), ()))

    def test_more_numbers(self):
        # 1 deed: three times, and no more.
        log = (entry(1, (0,) * 3), entry(1, (0,) * 4, "never"))
        self.assertEqual(least_log_plan(1, log), (1, (((0, 1),), ((0, 2),), ((0, 3),), ()), ()))
        self.assertEqual(least_log_plan(1, (entry(1, (0,) * 4), entry(1, (0,) * 5, "never"))), None)
        self.assertEqual(least_log_plan(2, PLAIN), (2, (((0, 1),), ((0, 0), (1, 1))), ()))
        self.assertEqual(least_log_plan(2, (entry(2, (0, 0)), entry(2, (0, 0, 0), "never"), entry(2, (1,), "never"))),
                         (2, (((0, 1),), ((0, 2),), ()), ()))
        self.assertEqual(least_log_plan(3, (entry(3, (2, 1)), entry(3, (2, 2), "never"))), (3, (((0, 0), (1, 0), (2, 1)), ((0, 0), (1, 0))), ()))

    def test_none(self):
        for log in ((entry(2, (0, 1)), entry(2, (0,), "never")), (entry(2, (), "never"),), (entry(1, (0,)), entry(1, (0,), "never"))):
            self.assertEqual(least_log_plan(log[0][0][-1] + 1, log), None)
        self.assertEqual(least_log_plan(4, (entry(4, (0, 1)), entry(4, (1, 0), "never"))), None)
        # Just one number too many: so many times a deed, and no more.
        for deeds, most in ((1, 4), (2, 3), (3, 2), (4, 1), (6, 1)):
            for many in range(1, 7):
                log = (entry(deeds, (0,) * many), entry(deeds, (0,) * (many + 1), "never"))
                found = least_log_plan(deeds, log)
                self.assertEqual(None if found is None else len(found[1]), many + 1 if many + 1 <= most else None)
        self.assertEqual(least_log_plan(3, (entry(3, (0, 1)), entry(3, (1, 0), "never"))), (3, (((0, 0), (1, 1)), ()), ()))

    def test_by_chance(self):
        chance = chance_of(360)
        seen = {}
        for _ in range(260):
            deeds = chance.choice([1, 1, 1, 2, 2, 3, 3, 4, 6])
            log = some_log(chance, deeds, chance.random() < 0.5, chance.randint(1, 4), chance.randint(0, 5 if deeds == 2 else 8))
            due = told_least(deeds, log)
            seen[deeds, due and len(due[1])] = seen.get((deeds, due and len(due[1])), 0) + 1
            self.assertEqual(least_log_plan(deeds, log), due, (deeds, log))
        self.assertTrue({(1, 1), (1, 2), (1, None), (2, 1), (2, 2), (2, None), (3, 1), (3, 2), (3, None), (4, 1), (6, 1)} <= set(seen), seen)

    def test_logs_of_plans(self):
        # A LOG that is made of a machine is fit by a PLAN with no more numbers.
        chance = chance_of(361)
        most = {1: 4, 2: 3, 3: 2}
        seen = {}
        for _ in range(250):
            deeds = chance.randint(1, 3)
            many = chance.randint(1, most[deeds])
            rows = tuple(tuple((deed, chance.randrange(many)) for deed in range(deeds) if chance.random() < 0.7) for _ in range(many))
            works = works_by(deeds, rows)
            log = tuple(entry[:3] + ("done" if told_fits(works, all_wishing(deeds), (entry[:3] + ("done",),)) else "never",)
                        for entry in some_log(chance, deeds, chance.random() < 0.7, 5, 8))
            found = least_log_plan(deeds, log)
            self.assertEqual(told_works(works_by(deeds, found[1])), None)
            self.assertEqual((found[0], found[2]), (deeds, ()))
            self.assertTrue((len(found[1]), found[1]) <= (many, rows) or len(found[1]) < many)
            self.assertIs(do_fit(works_by(deeds, found[1]), all_wishing(deeds), log), True)
            seen[deeds, len(found[1])] = seen.get((deeds, len(found[1])), 0) + 1
        self.assertTrue({(1, 2), (2, 2), (3, 2)} <= set(seen), seen)

    def test_rows_that_must_be_longer(self):
        # The first row could end earlier, but then no other rows do.
        for deeds, log, rows in (
                (2, (entry(2, (0, 0, 1)), entry(2, (0, 1), "never")), (((0, 1), (1, 0)), ((0, 0),))),
                (2, (((0, 1), 1, (1, 0, 1), "done"), ((0,), 2, (0, 0, 0), "never"), ((1,), 2, (1, 1), "done")), (((0, 1), (1, 0)), ((1, 1),))),
                (3, (entry(3, (2, 1, 2), "never"), entry(3, (0, 1, 2), "never"), entry(3, (1, 1, 2, 2, 1))),
                 (((0, 0), (1, 1), (2, 0)), ((0, 0), (1, 0)))),
                (3, (((0, 1, 2), 2, (2, 2, 1), "done"), ((0, 1, 2), 1, (2, 1, 2), "never")), (((0, 0), (1, 1), (2, 0)), ())),
                (2, (((0,), 1, (0, 0, 0, 0), "never"), ((0, 1), 2, (1, 0, 0), "done")), (((0, 1), (1, 0)), ((0, 2),), ()))):
            self.assertEqual(least_log_plan(deeds, log), (deeds, rows, ()))
            self.assertEqual(told_least(deeds, log), (deeds, rows, ()))

    def test_what_need_not_see_all(self):
        self.assertEqual(least_log_plan(2, (((1,), 0, (1, 1), "done"), ((0, 1), 0, (1,), "never"))), (2, (((0, 1),), ((0, 0), (1, 0))), ()))
        self.assertEqual(least_log_plan(2, (((0,), 1, (0,), "never"), ((1,), 0, (1,), "done"))), (2, (((1, 0),),), ()))

    def test_errors(self):
        for call, more in ((least_log_plan, ()), (parted_lot, ()), (are_parted, (None, None))):
            for deeds in junk():
                if not told_int(deeds, 1, 6):
                    self.assertEqual(outcome(call, deeds, None, *more), ("OutOfPlace",), deeds)
            for log in junk() + mutations(PLAIN):
                part = told_log(2, log)
                if part is not None:
                    self.assertEqual(outcome(call, 2, log, *more), ("BadLog", part), log)


class Parted(unittest.TestCase):
    def test_ordinary(self):
        self.assertIs(are_parted(2, PLAIN, (), (0,)), True)
        self.assertIs(are_parted(2, PLAIN, (0,), (0, 1)), False)
        self.assertIs(are_parted(2, PLAIN, (), (0, 1)), True)
        self.assertIs(are_parted(2, PLAIN, (), (0, 1, 1)), False)
        self.assertEqual(parted_lot(2, PLAIN), ((), (0,)))

    def test_what_begins_with_never_is_parted_from_all(self):
        # No WORKS fit such a LOG.
        log = (entry(2, (0, 1)), entry(2, (0,), "never"))
        self.assertIs(are_parted(2, log, (), (0, 1)), True)
        self.assertIs(are_parted(2, log, (0,), (0,)), True)
        # Even from itself: by (0,) behind it is a start, and begins so.
        self.assertIs(are_parted(2, log, (), ()), True)
        self.assertIs(are_parted(2, PLAIN, (), ()), False)
        self.assertEqual(parted_lot(2, log), ((), (0,), (0, 1)))
        self.assertEqual(parted_lot(2, (entry(2, (1,)), entry(2, (), "never"))), ((), (1,)))

    def test_no_starts_and_none_that_are_parted(self):
        self.assertEqual(parted_lot(2, ()), ())
        self.assertEqual(parted_lot(2, (entry(2, (0,), "never"),)), ())
        self.assertEqual(parted_lot(2, (entry(2, ()),)), ((),))
        self.assertEqual(parted_lot(2, (entry(2, (1, 0)), entry(2, (0, 1)))), ((),))

    def test_the_most_starts(self):
        # One deed: eight are done, no ninth one could be.
        log = (entry(1, (0,) * 7), entry(1, (0,) * 8, "never"))
        self.assertEqual(parted_lot(1, log), tuple((0,) * k for k in range(8)))
        log = tuple(entry(2, (0,) * k + (1,) * (8 - k)) for k in range(7)) + (entry(2, (), "never"),)
        self.assertEqual(parted_lot(2, log), tuple(told_starts(log)))

    def test_which_one_of_several(self):
        # Of lots of two the first one is told.
        log = (entry(2, (0, 0)), entry(2, (1, 0)), entry(2, (0, 1), "never"), entry(2, (1, 1), "never"))
        self.assertEqual(parted_lot(2, log), told_lot(2, log))
        self.assertEqual(len(parted_lot(2, log)), 2)

    def test_by_chance(self):
        chance = chance_of(362)
        sizes = {}
        for _ in range(300):
            deeds = chance.randint(1, 3)
            log = some_log(chance, deeds, True, chance.randint(1, 5))
            starts = told_starts(log)
            found = parted_lot(deeds, log)
            if len(starts) < 14:
                self.assertEqual(found, told_lot(deeds, log), (deeds, log))
            sizes[len(found)] = sizes.get(len(found), 0) + 1
            for one, other in itertools.product(starts[:6] + starts[-3:], repeat=2):
                self.assertIs(are_parted(deeds, log, one, other), told_parted(deeds, log, one, other), (log, one, other))
            for one, other in itertools.combinations(found, 2):
                self.assertTrue(one < other and told_parted(deeds, log, one, other))
        self.assertGreater(len(sizes), 4)

    def test_by_the_words(self):
        # Two starts are parted if some row behind both tells them apart.
        chance = chance_of(363)
        for _ in range(60):
            log = some_log(chance, 2, True, 3, 4)
            starts = told_starts(log)
            nevers = [row for _, _, row, word in log if word == "never"]
            rows = [row for length in range(4) for row in itertools.product(range(2), repeat=length)]

            def begins(row):
                return any(row[:len(never)] == never for never in nevers)
            for one, other in itertools.product(starts, repeat=2):
                due = any(one + row in starts and begins(other + row) or other + row in starts and begins(one + row) for row in rows)
                self.assertIs(are_parted(2, log, one, other), due)

    def test_as_many_standings(self):
        chance = chance_of(364)
        many = 0
        for _ in range(200):
            deeds = chance.randint(1, 3)
            log = some_log(chance, deeds, True, 4, chance.randint(2, 6))
            plan = least_log_plan(deeds, log)
            if plan is not None:
                many += 1
                found = standings(works_by(deeds, plan[1]), all_wishing(deeds))
                self.assertLessEqual(len(parted_lot(deeds, log)), len(found))
        self.assertGreater(many, 30)

    def test_logs_that_are_none_here(self):
        for other in (((0,), 0, (0,), "done"), ((0, 1), 1, (0,), "done"), ((), 0, (), "never"), ((0, 1), 2, (), "never")):
            for log in (PLAIN + (other,), (other,) + PLAIN):
                self.assertEqual(outcome(parted_lot, 2, log), ("OutOfPlace",))
                self.assertEqual(outcome(are_parted, 2, log, (), ()), ("OutOfPlace",))
                self.assertEqual(outcome(least_log_plan, 2, log)[0], "ok")
            self.assertEqual(outcome(parted_lot, 2, PLAIN + (other, None)), ("BadLog", 3))
        # SEEN must be all deeds, not those of the other ENTRIES.
        self.assertEqual(outcome(parted_lot, 3, PLAIN), ("OutOfPlace",))

    def test_starts_that_are_none(self):
        for thing in junk() + [(1,), (0, 1, 1, 1), [], [0], (False,), (0.0,), (2,), None, ([],), (0, 1, True)]:
            if not (told_row(thing, 2) and thing in told_starts(PLAIN)):
                self.assertEqual(outcome(are_parted, 2, PLAIN, thing, ()), ("OutOfPlace",), thing)
                self.assertEqual(outcome(are_parted, 2, PLAIN, (), thing), ("OutOfPlace",), thing)
        self.assertEqual(outcome(are_parted, 2, (), (), ()), ("OutOfPlace",))


if __name__ == "__main__":
    unittest.main()
