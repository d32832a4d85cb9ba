"""[94] Tests that hold of rows, and LOGS that are told by them: worksward/marks.py, worksward/markpapers.py."""

import itertools
import unittest

from common import (Equal, Odd, all_sights, chance_of, hold_papers, junk, mutations, no_papers, outcome, some_log, told_ascending,
                    told_holds, told_int, told_judged, told_log, told_row, told_tuple)
from worksward.markpapers import check_marks
from worksward.marks import are_told, fewest_tests, mark_paper, tests_of
from worksward.sayings import does_hold

WORDS = ("begins", "ends", "has")


def entry(deeds, row, word="done"):
    return (tuple(range(deeds)), 0, row, word)


def log_of(deeds, dones, nevers):
    return tuple(entry(deeds, row) for row in dones) + tuple(entry(deeds, row, "never") for row in nevers)


# ---------------------------------------------------------------- told again

def told_tests(deeds):
    rows = [row for many in (1, 2) for row in itertools.product(range(deeds), repeat=many)]
    return sorted(itertools.product(WORDS, rows))


def told_pairs(log):
    return [(one, two) for one in range(len(log)) for two in range(len(log)) if log[one][3] == "done" and log[two][3] == "never"]


def told_by(log, tests):
    return all(any(told_holds(test, log[one][2]) != told_holds(test, log[two][2]) for test in tests) for one, two in told_pairs(log))


def told_fewest(deeds, log):
    """The fewest tests, the first ones, by going through all."""
    for many in range(4):
        for tests in itertools.combinations(told_tests(deeds), many):
            if told_by(log, tests):
                return tests
    return None


def told_check(deeds, log, paper):
    def holds():
        if paper[0] == "alike":
            _, one, two = paper
            if not told_int(one, 0, len(log) - 1) or not told_int(two, 0, len(log) - 1) or (one, two) not in told_pairs(log):
                return False
            return all(told_holds(test, log[one][2]) == told_holds(test, log[two][2]) for test in told_tests(deeds))
        tests = paper[1]
        if type(tests) is not tuple:
            return False
        for test in tests:
            if not told_tuple(test, 2, 2) or type(test[0]) is not str or test[0] not in WORDS or not told_row(test[1], deeds, 1, 2):
                return False
        return told_ascending(tests) and told_by(log, tests)
    return told_judged({"told": 2, "alike": 3}, paper, holds)


def cases(seed, many, most=8):
    chance = chance_of(seed)
    for _ in range(many):
        deeds = chance.choice([1, 2, 2, 3, 3, 4])
        yield deeds, some_log(chance, deeds, chance.random() < 0.5, chance.randint(1, most))


class Tests(unittest.TestCase):
    def test_ordinary(self):
        self.assertEqual(tests_of(2, (0, 1)), (("begins", (0,)), ("begins", (0, 1)), ("ends", (0, 1)), ("ends", (1,)),
                                               ("has", (0,)), ("has", (0, 1)), ("has", (1,))))
        self.assertEqual(tests_of(2, (1,)), (("begins", (1,)), ("begins", (1, 0)), ("begins", (1, 1)), ("ends", (1,)), ("has", (1,))))
        self.assertEqual(tests_of(2, ()), tuple(("begins", row) for row in ((0,), (0, 0), (0, 1), (1,), (1, 0), (1, 1))))
        self.assertEqual(tests_of(1, ()), (("begins", (0,)), ("begins", (0, 0))))
        self.assertEqual(tests_of(1, (0, 0)), (("begins", (0,)), ("begins", (0, 0)), ("ends", (0,)), ("ends", (0, 0)), ("has", (0,)), ("has", (0, 0))))

    def test_all_short_rows_by_the_words(self):
        for deeds in (1, 2, 3):
            tests = told_tests(deeds)
            for many in range(5):
                for row in itertools.product(range(deeds), repeat=many):
                    due = tuple(test for test in tests if told_holds(test, row))
                    self.assertEqual(tests_of(deeds, row), due)
                    self.assertEqual(due, tuple(test for test in tests if does_hold(deeds, test, row)))

    def test_long_rows(self):
        chance = chance_of(370)
        for deeds in range(1, 7):
            for many in (30, 400):
                row = tuple(chance.randrange(deeds) for _ in range(many))
                self.assertEqual(tests_of(deeds, row), tuple(test for test in told_tests(deeds) if told_holds(test, row)))
        self.assertEqual(outcome(tests_of, 2, (0,) * 401), ("OutOfPlace",))

    def test_wrong_arguments(self):
        for thing in junk() + [[0], (2,), (True,)]:
            if not told_row(thing, 2):
                self.assertEqual(outcome(tests_of, 2, thing), ("OutOfPlace",), thing)
            if not told_int(thing, 1, 6):
                for call in (tests_of, are_told, mark_paper, fewest_tests):
                    self.assertEqual(outcome(call, thing, *[None] * (call is tests_of) or [None]), ("OutOfPlace",), thing)
                self.assertEqual(outcome(check_marks, thing, None, None), ("OutOfPlace",), thing)
        for thing in junk() + mutations(log_of(2, [(0, 1)], [(1,)])):
            part = told_log(2, thing)
            if part is not None:
                for call, more in ((are_told, ()), (mark_paper, ()), (fewest_tests, ()), (check_marks, (None,))):
                    self.assertEqual(outcome(call, 2, thing, *more), ("BadLog", part), thing)


class Told(unittest.TestCase):
    def test_ordinary(self):
        for dones, nevers, due in (([(0, 1)], [(1, 0)], True), ([(0, 0)], [(0, 0, 0)], False), ([(0,)], [(0,)], False), ([], [(0,)], True),
                                   ([(0,)], [], True), ([()], [(0,)], True), ([(0, 1, 0, 1)], [(0, 1, 0, 1, 0, 1)], False), ([(0, 1, 0)], [(0, 1, 1, 0)], True)):
            log = log_of(2, dones, nevers)
            self.assertIs(are_told(2, log), due, log)
            paper = mark_paper(2, log)
            self.assertEqual(paper[0], "told" if due else "alike")
            self.assertEqual(check_marks(2, log, paper), paper[0])
        self.assertIs(are_told(2, ()), True)

    def test_seen_and_loss_do_not_matter(self):
        log = (((0,), 2, (0, 0), "done"), ((0, 1), 0, (0, 0), "never"))
        self.assertIs(are_told(2, log), False)
        self.assertEqual(mark_paper(2, log), ("alike", 0, 1))

    def test_one_deed(self):
        # Of one deed all rows begin alike, and rows of two deeds and of more are alike.
        rows = [(0,) * k for k in range(5)]
        for one, two in itertools.product(rows, repeat=2):
            due = min(len(one), 2) != min(len(two), 2)
            self.assertIs(are_told(1, log_of(1, [one], [two])), due)

    def test_all_short_rows(self):
        rows = [row for many in range(4) for row in itertools.product(range(2), repeat=many)]
        for one, two in itertools.product(rows, repeat=2):
            log = log_of(2, [one], [two])
            self.assertIs(are_told(2, log), told_by(log, told_tests(2)))

    def test_by_chance(self):
        seen = {True: 0, False: 0}
        for deeds, log in cases(371, 400):
            due = told_by(log, told_tests(deeds))
            seen[due] += 1
            self.assertIs(are_told(deeds, log), due)
            paper = mark_paper(deeds, log)
            self.assertEqual(paper[0], "told" if due else "alike")
            self.assertEqual(check_marks(deeds, log, paper), paper[0])
            self.assertEqual(told_check(deeds, log, paper), ("ok", paper[0]))
        self.assertGreater(min(seen.values()), 60)


class Fewest(unittest.TestCase):
    def test_none_at_all(self):
        self.assertEqual(fewest_tests(2, ()), ())
        self.assertEqual(fewest_tests(2, log_of(2, [(0,), (1,)], [])), ())
        self.assertEqual(fewest_tests(2, log_of(2, [(0,)], [(0,)])), None)

    def test_ordinary(self):
        self.assertEqual(fewest_tests(2, log_of(2, [(0, 1)], [(1, 0)])), (("begins", (0,)),))
        self.assertEqual(fewest_tests(2, log_of(2, [(0, 1, 0)], [(0, 1, 1, 0)])), (("has", (1, 1)),))
        self.assertEqual(fewest_tests(2, log_of(2, [(0, 0), (1, 1)], [(0, 1), (1, 0)])), told_fewest(2, log_of(2, [(0, 0), (1, 1)], [(0, 1), (1, 0)])))

    def test_by_chance(self):
        sizes = {}
        for deeds, log in cases(372, 160, 6):
            if deeds > 3:
                continue
            due = told_fewest(deeds, log)
            size = None if due is None else len(due)
            sizes[size] = sizes.get(size, 0) + 1
            self.assertEqual(fewest_tests(deeds, log), due, (deeds, log))
        self.assertTrue({None, 0, 1, 2} <= set(sizes), sizes)

    def test_three_tests_and_more(self):
        # Rows with the deeds of some lots in turn: "has" alone tells them apart.
        chance = chance_of(373)
        sizes = {}
        while sizes.get(3, 0) < 12 or sizes.get(None, 0) < 8:
            rows = [tuple(chance.randrange(3) for _ in range(chance.randint(2, 5))) for _ in range(8)]
            log = log_of(3, rows[:4], rows[4:])
            if not told_by(log, told_tests(3)):
                continue
            found = fewest_tests(3, log)
            size = None if found is None else len(found)
            if sizes.get(size, 0) < 14:
                sizes[size] = sizes.get(size, 0) + 1
                self.assertEqual(found, told_fewest(3, log), log)
                if found is not None:
                    self.assertEqual(check_marks(3, log, ("told", found)), "told")


class Papers(unittest.TestCase):
    def test_no_papers(self):
        for thing in no_papers({"told": 1, "alike": 2}):
            self.assertEqual(outcome(check_marks, 2, (), thing), ("BadPaper", "form"), thing)

    def test_tests(self):
        log = log_of(2, [(0, 1)], [(1, 0)])
        for tests, is_so in (((("begins", (0,)),), True), ((("begins", (0,)), ("begins", (0, 1))), True), ((("begins", (0, 1)), ("begins", (0,))), False),
                             ((("begins", (0,)),) * 2, False), ((), False), ((("has", (0,)),), False), ([("begins", (0,))], False), ((["begins", (0,)],), False),
                             ((("begins", [0]),), False), ((("begins", ()),), False), ((("begins", (0, 1, 0)),), False), ((("begins", (False,)),), False),
                             ((("begins", (2,)),), False), ((("most", (0,)),), False), ((("begins", (0,), 0),), False), ((("Begins", (0,)),), False),
                             (((None, (0,)),), False), (((Equal(), (0,)),), False), ((Odd(),), False), (None, False), ((("begins", (0.0,)),), False),
                             ((("begins", (0,)), ("ends", (0, 0)), ("has", (1, 1))), True)):
            due = ("ok", "told") if is_so else ("BadPaper", "told")
            self.assertEqual(outcome(check_marks, 2, log, ("told", tests)), due, tests)
        self.assertEqual(check_marks(2, log[:1], ("told", ())), "told")

    def test_numbers(self):
        log = log_of(2, [(0, 0), (1,)], [(0, 0, 0), (1,)])
        for one, two, is_so in ((0, 2, True), (1, 3, True), (0, 3, False), (2, 0, False), (0, 1, False), (0, 0, False), (False, 2, False), (0, 2.0, False),
                                (0, 4, False), (-4, 2, False), (None, None, False), ((0,), 2, False), (1, True, False)):
            due = ("ok", "alike") if is_so else ("BadPaper", "alike")
            self.assertEqual(outcome(check_marks, 2, log, ("alike", one, two)), due, (one, two))

    def test_papers_that_are_otherwise(self):
        chance = chance_of(374)
        many = {}
        for deeds, log in cases(375, 120, 5):
            hold_papers(self, check_marks, told_check, (deeds, log), mark_paper(deeds, log), chance, 100, many)
        self.assertTrue(len(many) == 2 and min(many.values()) > 5, many)

    def test_papers_of_others(self):
        chance = chance_of(376)
        held = 0
        for deeds, log in cases(377, 300, 4):
            other = tuple(part[:3] + (chance.choice([part[3], "done", "never"]),) for part in log)
            paper = mark_paper(deeds, log)
            due = told_check(deeds, other, paper)
            held += due[0] == "ok"
            self.assertEqual(outcome(check_marks, deeds, other, paper), due)
        self.assertGreater(held, 60)
        self.assertEqual(len(all_sights(2)), 4)


if __name__ == "__main__":
    unittest.main()
