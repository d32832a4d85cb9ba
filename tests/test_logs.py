"""[90], [91] ENTRIES, LOGS, what shows and what fits: worksward/logs.py, worksward/logfits.py, worksward/logpapers.py."""

import itertools
import unittest

from common import (CUBE, MANY, RING, SHARED, STILL, Equal, Odd, chance_of, hold_papers, junk, mutations, no_papers, outcome, some_entry,
                    some_log, some_wish, some_works, told_ascending, told_entry, told_good, told_int, told_is_pair, told_judged, told_log,
                    told_row, told_rows, told_run, told_runs, told_shows, told_start, told_tuple, told_wished)
from worksward.logfits import do_fit, fit_paper, shown_by
from worksward.logpapers import check_fit
from worksward.logs import does_show, need_log

ALL2 = (((0, 0),), (0,))
# Never 1 right behind 1.
SELDOM = (((0, 1), (0, 2), (2, 2)), (0, 1))
FULL = (((0, 1), 2, (0, 1, 0, 1, 0, 1, 0, 1), "done"), ((), 0, (), "never"))


# ---------------------------------------------------------------- told again

def told_lost(entry, row):
    """Whether a row shows an ENTRY: by each choice of what is left out, straight by the words."""
    seen, loss, kept, _ = entry
    look = [deed for deed in row if deed in seen]
    for stays in itertools.product((True, False), repeat=len(look)):
        gone = "".join("s" if stay else "l" for stay in stays)
        if "l" * (loss + 1) not in gone and tuple(deed for deed, stay in zip(look, stays) if stay) == kept:
            return True
    return False


def told_knots(works, wish, entry):
    """The least set of quadruples that a NET has, which may have such as no NET has."""
    seen, loss, row, _ = entry
    known = {(told_start(works), 0, 0, 0)}
    waiting = list(known)
    while waiting:
        for knot in told_behind(works, wish, entry, waiting.pop()):
            if knot not in known:
                known.add(knot)
                waiting.append(knot)
    return known


def told_behind(works, wish, entry, knot):
    """The quadruples that must be in a NET with one; HEARD may be as many as ROW has."""
    seen, loss, row, _ = entry
    place, state, heard, lost = knot
    found = []
    for deed in range(works[0]):
        after = told_good(works, wish, (place, state), deed)
        if after is not None and deed not in seen:
            found.append((*after, heard, lost))
        elif after is not None:
            if lost < loss:
                found.append((*after, heard, lost + 1))
            if row[heard:heard + 1] == (deed,):
                found.append((*after, heard + 1, 0))
    return found


def told_is_shown(works, wish, entry):
    """Whether some RUN that is wished shows an ENTRY."""
    return any(knot[2] == len(entry[2]) for knot in told_knots(works, wish, entry))


def told_fits(works, wish, log):
    return all(told_is_shown(works, wish, entry) == (entry[3] == "done") for entry in log)


def told_is_net(works, wish, entry, net):
    if type(net) is not tuple:
        return False
    for knot in net:
        if not told_tuple(knot, 4, 4) or not told_is_pair(works, wish, knot[:2]):
            return False
        if not told_int(knot[2], 0, len(entry[2]) - 1) or not told_int(knot[3], 0, entry[1]):
            return False
    if not told_ascending(net) or (told_start(works), 0, 0, 0) not in net:
        return False
    return all(after in net for knot in net for after in told_behind(works, wish, entry, knot))


def told_ground(works, wish, entry, ground, is_run):
    if is_run:
        return told_run(works, wish, ground) is not None and told_shows(entry, ground)
    return told_is_net(works, wish, entry, ground)


def told_check(works, wish, log, paper):
    def holds():
        if paper[0] == "fails":
            number, ground = paper[1:]
            return told_int(number, 0, len(log) - 1) and told_ground(works, wish, log[number], ground, log[number][3] == "never")
        return told_tuple(paper[1], len(log), len(log)) and all(
            told_ground(works, wish, entry, ground, entry[3] == "done") for entry, ground in zip(log, paper[1]))
    return told_judged({"fits": 2, "fails": 3}, paper, holds)


def cases(seed, many, entries=3):
    """WORKS, WISHES and LOGS by chance; ENTRIES are made so that about half of the LOGS fit."""
    chance = chance_of(seed)
    for _ in range(many):
        works = some_works(chance, chance.randint(1, 3), chance.randint(1, 2), most=3, part=0.8)
        wish = some_wish(chance, works[0], 3, 0.7)
        log = []
        for _ in range(chance.randint(0, entries)):
            entry = some_entry(chance, works[0], most=4)
            if chance.random() < 0.8:
                entry = entry[:3] + ("done" if told_is_shown(works, wish, entry) else "never",)
            log.append(entry)
        yield works, wish, tuple(log)


class Logs(unittest.TestCase):
    def test_what_is_one(self):
        for log in ((), FULL, FULL * 4, (((), 2, (), "done"),), (((1,), 1, (1,) * 8, "never"),)):
            self.assertIs(need_log(2, log), log)

    def test_parts(self):
        good = ((0,), 0, (0,), "done")
        for thing, part in ((None, "form"), ([], "form"), ((good,) * 9, "form"), ((None,) * 9, "form"), (0, "form"), ("", "form"), ({}, "form"),
                            ((None,), 0), ((good, None), 1), ((good,) * 7 + ((),), 7), ((good, good[:3]), 1), ((good + ("done",),), 0), (([*good],), 0),
                            ((([0], 0, (0,), "done"),), 0), ((((1, 0), 0, (), "done"),), 0), ((((2,), 0, (), "done"),), 0), ((((True,), 0, (), "done"),), 0),
                            ((((0,), 3, (), "done"),), 0), ((((0,), -1, (), "done"),), 0), ((((0,), True, (), "done"),), 0), ((((0,), 1.0, (), "done"),), 0),
                            ((((0,), 0, (1,), "done"),), 0), ((((), 0, (0,), "done"),), 0), ((((0,), 0, (0,) * 9, "done"),), 0), ((((0,), 0, [0], "done"),), 0),
                            ((((0,), 0, (False,), "done"),), 0), ((((0,), 0, (0,), "Done"),), 0), ((((0,), 0, (0,), None),), 0), ((((0,), 0, (0,), b"done"),), 0),
                            ((((0,), 0, (0,), "shown"),), 0), ((good, ((0,), 0, (0,), Equal()), None), 1), ((((0,), 0, (0,), ("done",)),), 0)):
            self.assertEqual(outcome(need_log, 2, thing), ("BadLog", part), thing)
            self.assertEqual(outcome(does_show, 2, thing, None, None), ("BadLog", part), thing)
            for call, more in ((do_fit, ()), (shown_by, (None,)), (fit_paper, ()), (check_fit, (None,))):
                self.assertEqual(outcome(call, RING, ALL2, thing, *more), ("BadLog", part), thing)

    def test_mutations(self):
        for thing in junk() + mutations(FULL):
            part = told_log(2, thing)
            self.assertEqual(outcome(need_log, 2, thing), ("ok", thing) if part is None else ("BadLog", part), thing)

    def test_deeds(self):
        for deeds in junk() + [0, 7, True, 1.0]:
            if not told_int(deeds, 1, 6):
                self.assertEqual(outcome(need_log, deeds, None), ("OutOfPlace",))
                self.assertEqual(outcome(does_show, deeds, None, None, None), ("OutOfPlace",))
        for deeds in range(1, 7):
            self.assertEqual(outcome(need_log, deeds, (((deeds - 1,), 0, (), "done"),))[0], "ok")
            self.assertEqual(outcome(need_log, deeds, (((deeds,), 0, (), "done"),)), ("BadLog", 0))


class Shown(unittest.TestCase):
    def test_ordinary(self):
        entry = ((0, 1), 1, (0, 1, 0), "done")
        for row, due in (((0, 1, 0), True), ((0, 2, 1, 2, 2, 0), True), ((1, 0, 1, 0), True), ((0, 0, 1, 1, 0, 0), True), ((0, 1, 0, 1), True),
                         ((1, 1, 0, 1, 0), False), ((0, 1, 0, 0, 0), True), ((0, 1, 0, 0, 0, 0), False), ((0, 1), False), ((), False), ((2,), False), ((0, 1, 1, 1, 0), True), ((0, 1, 1, 1, 1, 0), False),
                         ((2, 1, 2, 0, 2, 1, 2, 0, 2, 1, 2), True), ((0, 2, 0, 2, 0), False)):
            self.assertIs(does_show(3, (entry,), 0, row), due, row)

    def test_nothing_is_lost(self):
        entry = ((0, 1), 0, (0, 1), "never")
        for row in told_rows(3, 5):
            self.assertIs(does_show(3, (entry,), 0, row), tuple(deed for deed in row if deed < 2) == (0, 1))

    def test_row_of_no_deeds(self):
        for loss in range(3):
            for row in told_rows(2, 5):
                self.assertIs(does_show(2, (((1,), loss, (), "done"),), 0, row), row.count(1) <= loss)

    def test_nothing_is_seen(self):
        self.assertIs(does_show(2, (((), 0, (), "done"),), 0, (0, 1) * 200), True)

    def test_by_the_words(self):
        chance = chance_of(350)
        seen = {True: 0, False: 0}
        for _ in range(200):
            deeds = chance.randint(1, 3)
            log = some_log(chance, deeds, most=5, many=2)
            for _ in range(20):
                number = chance.randrange(2)
                row = tuple(chance.randrange(deeds) for _ in range(chance.randint(0, 8)))
                due = told_lost(log[number], row)
                self.assertEqual(told_shows(log[number], row), due)
                seen[due] += 1
                self.assertIs(does_show(deeds, log, number, row), due, (log, number, row))
        self.assertGreater(min(seen.values()), 200)

    def test_eight_deeds_and_long_rows(self):
        row = (0, 1, 1, 0, 1, 0, 0, 1)
        for loss in range(3):
            log = (((0, 1), loss, row, "done"),)
            long = tuple(deed for kept in row for deed in (2,) * 30 + (kept,) * (1 + loss)) + (2,) * 100
            self.assertLess(len(long), 400)
            self.assertIs(does_show(3, log, 0, long), True)
            self.assertIs(does_show(3, log, 0, long[:-101] + (1 - row[-1],) * (loss + 1)), loss == 9)
            self.assertIs(does_show(3, log, 0, row + (0,) * loss), True)
            self.assertIs(does_show(3, log, 0, row + (0,) * (loss + 1)), False)

    def test_wrong_arguments(self):
        log = FULL
        for number in junk() + [2, -1, True, 0.0, 8]:
            if not told_int(number, 0, 1):
                self.assertEqual(outcome(does_show, 2, log, number, None), ("OutOfPlace",), number)
                self.assertEqual(outcome(shown_by, RING, ALL2, log, number), ("OutOfPlace",), number)
        for row in junk() + [(0,) * 401, (2,), [0]]:
            if not told_row(row, 2, 0, 400):
                self.assertEqual(outcome(does_show, 2, log, 0, row), ("OutOfPlace",), row)
        self.assertEqual(outcome(does_show, 2, (), 0, ()), ("OutOfPlace",))
        self.assertIs(does_show(2, log, 0, (0,) * 400), False)
        self.assertEqual(outcome(shown_by, RING, ALL2, (), 0), ("OutOfPlace",))


class Fits(unittest.TestCase):
    def test_ordinary(self):
        # RING: 0 0 1.. 0 0 0 1..; with SELDOM no two 1 in a row.
        for entry, wish, due in ((((0, 1), 0, (0, 0, 1), "done"), ALL2, True), (((0, 1), 0, (0, 1), "done"), ALL2, False),
                                 (((0, 1), 1, (0, 1), "done"), ALL2, True), (((1,), 0, (1, 1), "done"), ALL2, True),
                                 (((1,), 0, (1, 1), "never"), ALL2, False), (((0, 1), 0, (0, 0, 1, 1), "done"), SELDOM, False),
                                 (((0, 1), 0, (0, 0, 1, 1), "never"), SELDOM, True), (((0, 1), 1, (1, 1), "never"), SELDOM, True),
                                 (((0, 1), 2, (1, 1), "never"), SELDOM, True), (((1,), 0, (1, 1), "done"), SELDOM, True),
                                 (((0, 1), 2, (1,), "done"), SELDOM, True), (((), 0, (), "done"), ALL2, True), (((), 0, (), "never"), ALL2, False)):
            self.assertIs(do_fit(RING, wish, (entry,)), due, entry)
            self.assertEqual(fit_paper(RING, wish, (entry,))[0], "fits" if due else "fails")

    def test_no_entries(self):
        for works in (RING, STILL, SHARED, CUBE):
            wish = (((0,) * works[0],), (0,))
            self.assertIs(do_fit(works, wish, ()), True)
            self.assertEqual(fit_paper(works, wish, ()), ("fits", ()))
            self.assertEqual(check_fit(works, wish, (), ("fits", ())), "fits")

    def test_by_chance(self):
        seen = {True: 0, False: 0}
        for works, wish, log in cases(351, 300):
            due = told_fits(works, wish, log)
            seen[due] += 1
            self.assertIs(do_fit(works, wish, log), due)
            paper = fit_paper(works, wish, log)
            self.assertEqual(paper[0], "fits" if due else "fails")
            self.assertEqual(check_fit(works, wish, log, paper), paper[0])
            self.assertEqual(told_check(works, wish, log, paper), ("ok", paper[0]))
        self.assertGreater(min(seen.values()), 30)

    def test_eight_entries(self):
        chance = chance_of(352)
        for _ in range(60):
            works = some_works(chance, 2, part=0.9)
            wish = some_wish(chance, 2, 4)
            log = tuple(entry[:3] + ("done" if told_is_shown(works, wish, entry) else "never",) for entry in some_log(chance, 2, many=8))
            self.assertIs(do_fit(works, wish, log), True)
            self.assertEqual(check_fit(works, wish, log, fit_paper(works, wish, log)), "fits")
            number = chance.randrange(8)
            turned = log[number][:3] + ("never" if log[number][3] == "done" else "done",)
            other = log[:number] + (turned,) + log[number + 1:]
            self.assertIs(do_fit(works, wish, other), False)
            self.assertEqual(fit_paper(works, wish, other)[:2], ("fails", number))
        self.assertEqual(outcome(do_fit, RING, ALL2, FULL[:1] * 9), ("BadLog", "form"))

    def test_first_runs(self):
        none = 0
        for works, wish, log in cases(353, 200):
            runs = sorted([run for run in told_runs(works, 6) if told_wished(wish, run)], key=lambda run: (len(run), run))
            for number, entry in enumerate(log):
                found = shown_by(works, wish, log, number)
                shown = [run for run in runs if told_shows(entry, run)]
                self.assertIs(found is not None, told_is_shown(works, wish, entry))
                none += found is None
                if shown:
                    self.assertEqual(found, shown[0])
                elif found is not None:
                    self.assertGreater(len(found), 6)
                    self.assertTrue(told_shows(entry, found) and told_run(works, wish, found) is not None)
        self.assertGreater(none, 30)

    def test_first_of_runs_that_lose_other_deeds(self):
        # Both 0 and 1 may be lost; the least RUN of those with the fewest deeds counts.
        works = (2, (((0, 1), (((0, 1), (1, 1)), ((0, 2), (1, 2)), ((1, 0),))),), (), ((),))
        self.assertEqual(shown_by(works, ALL2, (((0, 1), 2, (1,), "done"),), 0), (1,))
        self.assertEqual(shown_by(works, ALL2, (((0, 1), 2, (1, 1), "done"),), 0), (1, 1))
        for entry in (((1,), 2, (1, 1, 1), "done"), ((0, 1), 1, (1, 1, 1), "done"), ((0,), 1, (0, 0), "never")):
            self.assertEqual(shown_by(works, ALL2, (entry,), 0), shown_slowly(works, ALL2, entry))
        self.assertEqual(shown_by(works, ALL2, (((0, 1), 0, (), "never"),), 0), ())

    def test_wrong_arguments(self):
        for call, more in ((do_fit, ()), (shown_by, (None,)), (fit_paper, ()), (check_fit, (None,))):
            self.assertEqual(outcome(call, None, None, None, *more), ("BadWorks", "form"))
            self.assertEqual(outcome(call, MANY, None, None, *more), ("TooMany", 24))
            self.assertEqual(outcome(call, CUBE, None, None, *more), ("BadWish", "form"))
            self.assertEqual(outcome(call, RING, ALL2, ((0,),), *more), ("BadLog", 0))
            # The LOG is one for the deeds of the WORKS.
            self.assertEqual(outcome(call, RING, ALL2, (((2,), 0, (), "done"),), *more), ("BadLog", 0))


def shown_slowly(works, wish, entry):
    for length in range(9):
        for row in itertools.product(range(works[0]), repeat=length):
            if told_run(works, wish, row) is not None and told_shows(entry, row):
                return row
    return None


class Papers(unittest.TestCase):
    def test_no_papers(self):
        for thing in no_papers({"fits": 1, "fails": 2}):
            self.assertEqual(outcome(check_fit, RING, ALL2, FULL, thing), ("BadPaper", "form"), thing)

    def test_runs(self):
        log = (((1,), 0, (1,), "done"),)
        for run, is_so in (((0, 0, 1), True), ((0, 0, 0, 0, 0, 1), True), ((0, 0, 1, 0), True), ((0, 0, 1, 1), False), ((0, 1), False), ((), False), (None, False),
                           ([0, 0, 1], False), ((0, 0, True), False), ((0, 0, 1.0), False), ((0, 0, 2), False), ((0, 0, 0) * 1000 + (0, 0, 1), True)):
            due = ("ok", "fits") if is_so else ("BadPaper", "fits")
            self.assertEqual(outcome(check_fit, RING, ALL2, log, ("fits", (run,))), due, run)
            log_never = (log[0][:3] + ("never",),)
            due = ("ok", "fails") if is_so else ("BadPaper", "fails")
            self.assertEqual(outcome(check_fit, RING, ALL2, log_never, ("fails", 0, run)), due, run)

    def test_numbers(self):
        log = (((1,), 0, (1,), "done"), ((1,), 0, (1,), "never"), ((1,), 0, (1,), "never"))
        run = (0, 0, 1)
        for number, is_so in ((1, True), (2, True), (0, False), (3, False), (-1, False), (True, False), (1.0, False), (None, False), ((1,), False), ("1", False)):
            due = ("ok", "fails") if is_so else ("BadPaper", "fails")
            self.assertEqual(outcome(check_fit, RING, ALL2, log, ("fails", number, run)), due, number)
        self.assertEqual(outcome(check_fit, RING, ALL2, (), ("fails", 0, ())), ("BadPaper", "fails"))

    def test_grounds(self):
        log = (((1,), 0, (1,), "done"),) * 2
        run = (0, 0, 1)
        for grounds, is_so in (((run, run), True), ((run,), False), ((run, run, run), False), ([run, run], False), ((), False), (None, False), ((run, None), False)):
            due = ("ok", "fits") if is_so else ("BadPaper", "fits")
            self.assertEqual(outcome(check_fit, RING, ALL2, log, ("fits", grounds)), due, grounds)

    def test_nets(self):
        entry = ((0, 1), 0, (0, 1), "never")
        net = fit_paper(RING, ALL2, (entry,))[1][0]
        self.assertEqual(net, (((0,), 0, 0, 0), ((1,), 0, 1, 0)))
        # No NET if ROW is ().
        for thing in ((), net, (((0,), 0, 0, 0),)):
            self.assertEqual(outcome(check_fit, RING, ALL2, (((), 0, (), "never"),), ("fits", (thing,))), ("BadPaper", "fits"))
        more = tuple(sorted(net + (((2,), 0, 0, 0),)))
        self.assertEqual(outcome(check_fit, RING, ALL2, (entry,), ("fits", (more,)))[0], told_check(RING, ALL2, (entry,), ("fits", (more,)))[0])

    def test_knots_that_need_not_come(self):
        chance = chance_of(354)
        held = {"ok": 0, "BadPaper": 0}
        for works, wish, log in cases(355, 200, 1):
            if log and not told_is_shown(works, wish, log[0]):
                entry = log[0]
                net = tuple(sorted(told_knots(works, wish, entry)))
                places = list(itertools.product(*[range(len(part[1])) for part in works[1]]))
                for _ in range(10):
                    other = set(net)
                    for _ in range(chance.randint(0, 2)):
                        other.add((chance.choice(places), chance.randrange(len(wish[0])), chance.randint(0, len(entry[2])), chance.randint(0, 2)))
                    if chance.random() < 0.3:
                        other.remove(chance.choice(sorted(other)))
                    word = "fits" if entry[3] == "never" else "fails"
                    thing = ("fits", (tuple(sorted(other)),)) if word == "fits" else ("fails", 0, tuple(sorted(other)))
                    due = told_check(works, wish, log, thing)
                    held[due[0]] += 1
                    self.assertEqual(outcome(check_fit, works, wish, log, thing), due, (works, wish, log, thing))
        self.assertGreater(min(held.values()), 30)

    def test_papers_that_are_otherwise(self):
        chance = chance_of(356)
        many = {}
        for works, wish, log in cases(357, 120, 2):
            hold_papers(self, check_fit, told_check, (works, wish, log), fit_paper(works, wish, log), chance, 120, many)
        self.assertTrue(len(many) == 2 and min(many.values()) > 5, many)

    def test_papers_of_others(self):
        chance = chance_of(358)
        held = 0
        for works, wish, log in cases(359, 200):
            paper = fit_paper(works, wish, log)
            other = tuple(some_entry(chance, works[0], most=2) if chance.random() < 0.4 else entry for entry in log)
            for args in ((works, wish, other), (works, some_wish(chance, works[0], 3), log)):
                due = told_check(*args, paper)
                held += due[0] == "ok"
                self.assertEqual(outcome(check_fit, *args, paper), due)
        self.assertGreater(held, 60)

    def test_things_that_are_equal_to_all(self):
        log = (((1,), 0, (1,), "never"),)
        for thing in (Equal(), Odd(), (Equal(),), ((Equal(), Equal(), Equal(), Equal()),), (((0,), 0, 0, Equal()),), ((([0],), 0, 0, 0),)):
            self.assertEqual(outcome(check_fit, RING, ALL2, log, ("fits", (thing,))), ("BadPaper", "fits"))
            self.assertEqual(outcome(check_fit, RING, ALL2, log, ("fails", 0, thing)), ("BadPaper", "fails"))
        self.assertTrue(told_entry(2, log[0]))


if __name__ == "__main__":
    unittest.main()
