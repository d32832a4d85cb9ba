"""[63], [64] Secrets: worksward/secrets.py, worksward/secretpapers.py."""

import itertools
import unittest

from common import (CUBE, EIGHT, NINE, Odd, RING, SHARED, STILL, TWELVE, all_sights, chance_of, hold_papers, no_papers, outcome,
                    same_kind, some_lot, some_wish, some_works, told_ascending, told_do, told_int, told_is_place,
                    told_judged, told_look, told_lot, told_place, told_row, told_runs, told_start, told_state, told_tuple)
from worksward.secretpapers import check_masks, check_secret
from worksward.secrets import does_hide, greatest_masks, guess, is_secret, mask_paper, secret_paper

ALL2 = (((0, 0),), (0,))
ALL3 = (((0, 0, 0),), (0,))
# From the first place 0 or 1, then 2 back; secret is that 1 came last of both.
FORK = (3, (((0, 1, 2), (((0, 1), (1, 2)), ((2, 0),), ((2, 0),))),), (), ((0,),))
ONES = (((0, 1, 0), (0, 1, 1)), (0,))
# Nobody can do deed 3.
WIDER = (4,) + FORK[1:]
ONES4 = (((0, 1, 0, 0), (0, 1, 1, 0)), (0,))


def told_pairs(works, wish):
    """All pairs of a place and a state, good or not, behind RUNS."""
    known = {(told_start(works), 0)}
    while True:
        more = {(told_do(works, place, deed), wish[0][state][deed]) for place, state in known for deed in range(works[0])}
        more = {pair for pair in more if pair[0] is not None}
        if more <= known:
            return known
        known |= more


def told_grown(works, wish, sight, pairs):
    known = set(pairs)
    while True:
        more = {(told_do(works, place, deed), wish[0][state][deed]) for place, state in known for deed in range(works[0])
                if deed not in sight}
        more = {pair for pair in more if pair[0] is not None}
        if more <= known:
            return frozenset(known)
        known |= more


def told_behind(works, wish, sight, pairs, deed):
    after = {(told_do(works, place, deed), wish[0][state][deed]) for place, state in pairs}
    return told_grown(works, wish, sight, {pair for pair in after if pair[0] is not None})


def told_guess(works, wish, sight, look):
    """The GUESS of a LOOK as a frozenset, empty of none."""
    pairs = told_grown(works, wish, sight, {(told_start(works), 0)})
    for deed in look:
        pairs = told_behind(works, wish, sight, pairs, deed) if deed in sight else frozenset()
    return pairs


def told_guesses(works, wish, sight):
    known = set()
    waiting = [told_guess(works, wish, sight, ())]
    while waiting:
        pairs = waiting.pop()
        if pairs and pairs not in known:
            known.add(pairs)
            waiting += [told_behind(works, wish, sight, pairs, deed) for deed in sight]
    return known


def told_open(wish, pairs):
    return any(state in wish[1] for _, state in pairs)


def told_hides(works, wish, sight):
    return all(told_open(wish, pairs) for pairs in told_guesses(works, wish, sight))


def told_masks(works, wish):
    hiding = [sight for sight in all_sights(works[0]) if told_hides(works, wish, sight)]
    return tuple(sorted(sight for sight in hiding if not any(set(sight) < set(other) for other in hiding)))


def told_hidden(works, wish, sight, table):
    if type(table) is not tuple:
        return False
    for pairs in table:
        if type(pairs) is not tuple or not pairs:
            return False
        if not all(told_tuple(pair, 2, 2) and told_is_place(works, pair[0]) and told_int(pair[1], 0, len(wish[0]) - 1)
                   for pair in pairs):
            return False
        if not told_ascending(pairs) or not told_open(wish, pairs):
            return False
    if not told_ascending(table) or tuple(sorted(told_guess(works, wish, sight, ()))) not in table:
        return False
    for pairs in table:
        for deed in sight:
            after = told_behind(works, wish, sight, pairs, deed)
            if after and tuple(sorted(after)) not in table:
                return False
    return True


def told_given(works, wish, sight, run):
    if not told_row(run, works[0]) or told_place(works, run) is None:
        return False
    return told_state(wish, run) not in wish[1] and not told_open(wish, told_guess(works, wish, sight, told_look(sight, run)))


def told_check(works, wish, sight, paper):
    def holds():
        call = told_hidden if paper[0] == "hidden" else told_given
        return call(works, wish, sight, paper[1])
    return told_judged({"hidden": 2, "given": 2}, paper, holds)


def told_check_masks(works, wish, paper):
    def holds():
        for part in paper[1:]:
            if type(part) is not tuple or not all(told_tuple(pair, 2, 2) and told_lot(pair[0], works[0]) for pair in part):
                return False
            if not told_ascending([pair[0] for pair in part]):
                return False
        for sight, table in paper[1]:
            if not told_hidden(works, wish, sight, table):
                return False
        for sight, run in paper[2]:
            if not told_given(works, wish, sight, run):
                return False
        return all(any(set(lot) <= set(sight) for sight, _ in paper[1]) or any(set(sight) <= set(lot) for sight, _ in paper[2])
                   for lot in all_sights(works[0]))
    return told_judged({"masks": 3}, paper, holds)


def cases(seed, many):
    chance = chance_of(seed)
    found = 0
    while found < many:
        works = some_works(chance, chance.randint(1, 4), chance.randint(1, 2), most=3, part=0.8)
        wish = some_wish(chance, works[0], 4, part=0.4)
        if len(told_pairs(works, wish)) <= 8:
            if len(told_guesses(works, wish, tuple(range(works[0])))) > 2 or chance.random() < 0.2:
                found += 1
                yield works, wish, some_lot(chance, works[0], 0.6)


class Secrets(unittest.TestCase):
    def test_runs(self):
        for run, due in (((), False), ((0,), False), ((1,), True), ((1, 2), True), ((1, 2, 0), False), ((0, 2), False)):
            self.assertIs(is_secret(FORK, ONES, run), due)
        self.assertIs(is_secret(RING, ALL2, (0, 0, 1, 0) * 100), False)
        self.assertEqual(outcome(is_secret, RING, ALL2, (0, 0, 1, 0) * 100 + (0,)), ("OutOfPlace",))

    def test_places_are_not_counted(self):
        wish = (((1, 0, 0), (1, 1, 1)), (0,))
        self.assertIs(is_secret(CUBE, wish, (1, 0, 1)), True)
        self.assertIs(is_secret(CUBE, wish, (1, 2, 1)), False)

    def test_a_state_may_be_good_again(self):
        # Not what is wished counts, but the state.
        wish = (((1, 1), (0, 0)), (0,))
        self.assertIs(is_secret(RING, wish, (0,)), True)
        self.assertIs(is_secret(RING, wish, (0, 0)), False)

    def test_by_chance(self):
        for works, wish, _ in cases(180, 60):
            for run in told_runs(works, 4):
                self.assertIs(is_secret(works, wish, run), told_state(wish, run) not in wish[1])


class Hiding(unittest.TestCase):
    def test_fork(self):
        hiding = [sight for sight in all_sights(3) if does_hide(FORK, ONES, sight)]
        # Behind a 1 there may be a 0, unless it is seen, or the 2 ahead of it.
        self.assertEqual(hiding, [(), (0,), (1,), (2,)])
        self.assertEqual(greatest_masks(FORK, ONES), ((0,), (1,), (2,)))
        self.assertEqual(secret_paper(FORK, ONES, (0, 1)), ("given", (1,)))
        self.assertEqual(greatest_masks(WIDER, ONES4), ((0, 3), (1, 3), (2, 3)))

    def test_nothing_is_secret(self):
        for sight in all_sights(2):
            self.assertIs(does_hide(RING, ALL2, sight), True)
        self.assertEqual(greatest_masks(RING, ALL2), ((0, 1),))
        self.assertEqual(mask_paper(STILL, (((0,),), (0,))), ("masks", (((0,), (((((0,), 0)),),)),), ()))

    def test_by_chance(self):
        seen = {True: 0, False: 0}
        for works, wish, sight in cases(181, 300):
            due = told_hides(works, wish, sight)
            seen[due] += 1
            self.assertIs(does_hide(works, wish, sight), due)
            paper = secret_paper(works, wish, sight)
            self.assertEqual(paper[0], "hidden" if due else "given")
            self.assertEqual(check_secret(works, wish, sight, paper), paper[0])
            self.assertEqual(told_check(works, wish, sight, paper), ("ok", paper[0]))
            self.assertIs(does_hide(works, wish, ()), True)
        self.assertTrue(min(seen.values()) > 30, seen)

    def test_by_the_words(self):
        # Each secret RUN looks alike with one that is not secret: of short RUNS and some longer ones.
        given = 0
        for works, wish, sight in cases(182, 60):
            looks = {}
            for run in told_runs(works, 7):
                looks.setdefault(told_look(sight, run), []).append(told_state(wish, run) in wish[1])
            if does_hide(works, wish, sight):
                for look, found in looks.items():
                    if len(look) <= 2 and len(told_runs(works, 7)) < 3000:
                        self.assertTrue(any(found) or told_open(wish, told_guess(works, wish, sight, look)))
            else:
                run = secret_paper(works, wish, sight)[1]
                self.assertFalse(any(looks.get(told_look(sight, run), [])))
                given += 1
        self.assertGreater(given, 5)


class Guesses(unittest.TestCase):
    def test_fork(self):
        self.assertEqual(guess(FORK, ONES, (1,), ()), (((0,), 0), ((1,), 0)))
        self.assertEqual(guess(FORK, ONES, (1,), (1,)), (((0,), 0), ((0,), 1), ((1,), 0), ((2,), 1)))
        for look in ((0,), (1, 0), (2,)):
            self.assertEqual(outcome(guess, FORK, ONES, (1,), look), ("OutOfPlace",))

    def test_by_chance(self):
        for works, wish, sight in cases(183, 120):
            for run in told_runs(works, 4):
                look = told_look(sight, run)
                self.assertEqual(guess(works, wish, sight, look), tuple(sorted(told_guess(works, wish, sight, look))))
            for look in itertools.product(range(works[0]), repeat=2):
                due = tuple(sorted(told_guess(works, wish, sight, look)))
                self.assertEqual(outcome(guess, works, wish, sight, look), ("ok", due) if due else ("OutOfPlace",))

    def test_long_looks(self):
        self.assertEqual(guess(RING, ALL2, (0,), (0,) * 400), (((1,), 0),))
        self.assertEqual(outcome(guess, RING, ALL2, (0,), (0,) * 401), ("OutOfPlace",))


class Masks(unittest.TestCase):
    def test_by_chance(self):
        many = {}
        for works, wish, _ in cases(184, 200):
            due = told_masks(works, wish)
            self.assertEqual(greatest_masks(works, wish), due)
            paper = mask_paper(works, wish)
            self.assertEqual(check_masks(works, wish, paper), "masks")
            self.assertEqual(told_check_masks(works, wish, paper), ("ok", "masks"))
            inner = [sight for sight, _ in paper[1]]
            self.assertEqual(tuple(sorted(sight for sight in inner if not any(set(sight) < set(other) for other in inner))), due)
            many[len(due)] = many.get(len(due), 0) + 1
        self.assertTrue(many[1] > 10 and many[2] > 10 and many.get(3, 0) > 0, many)

    def test_more_than_needed(self):
        paper = mask_paper(FORK, ONES)
        hide = tuple(sorted(paper[1] + (((), secret_paper(FORK, ONES, ())[1]),)))
        give = tuple(sorted(paper[2] + (((0, 1, 2), (1,)),)))
        self.assertEqual(check_masks(FORK, ONES, ("masks", hide, paper[2])), "masks")
        self.assertEqual(check_masks(FORK, ONES, ("masks", hide, give)), "masks")
        for bad in (("masks", paper[1][1:], paper[2]), ("masks", paper[1], paper[2][1:]), ("masks", (), ()), ("masks", paper[1], ()),
                    ("masks", paper[1][::-1], paper[2]), ("masks", paper[1] * 2, paper[2]), ("masks", paper[1], paper[2] * 2)):
            self.assertEqual(outcome(check_masks, FORK, ONES, bad), told_check_masks(FORK, ONES, bad))
            self.assertEqual(outcome(check_masks, FORK, ONES, bad), ("BadPaper", "masks"))


class Bounds(unittest.TestCase):
    def test_8_pairs_and_more(self):
        self.assertEqual(len(told_pairs(EIGHT, ALL2)), 8)
        self.assertEqual(len(told_pairs(NINE, ALL2)), 9)
        self.assertIs(does_hide(EIGHT, ALL2, (0, 1)), True)
        self.assertEqual(len(guess(EIGHT, ALL2, (), ())), 8)
        self.assertEqual(greatest_masks(EIGHT, ALL2), ((0, 1),))
        paper = mask_paper(EIGHT, ALL2)
        self.assertEqual(check_masks(EIGHT, ALL2, paper), "masks")
        for call, more in ((does_hide, ((0,),)), (guess, ((0,), (0,))), (secret_paper, ((0,),)), (greatest_masks, ()), (mask_paper, ()),
                           (check_secret, ((0,), None)), (check_masks, (None,)), (check_masks, (paper,))):
            self.assertEqual(outcome(call, NINE, ALL2, *more), ("TooMany", 8))
        self.assertEqual(outcome(guess, NINE, ALL2, (0,), (1,)), ("OutOfPlace",))
        self.assertEqual(outcome(guess, NINE, ALL2, (0,), (0,) * 401), ("OutOfPlace",))
        self.assertEqual(outcome(check_secret, NINE, ALL2, (2,), None), ("OutOfPlace",))
        self.assertIs(is_secret(NINE, ALL2, (0, 1)), False)

    def test_pairs_that_are_not_wished_count(self):
        # 3 places, but 3 states of each, two of which are not good.
        wish = (((1, 0), (2, 0), (0, 0)), (0,))
        works = NINE[:1] + (NINE[1][:1],) + ((), ((),))
        self.assertEqual(len(told_pairs(works, wish)), 3)
        two = (2, ((((0, 1), (((0, 1), (1, 0)), ((0, 2), (1, 1)), ((0, 0), (1, 2)))),)), (), ((),))
        wish = (((0, 1), (0, 2), (0, 0)), (0,))
        self.assertEqual(len(told_pairs(two, wish)), 9)
        self.assertEqual(outcome(does_hide, two, wish, ()), ("TooMany", 8))


class Papers(unittest.TestCase):
    def test_no_papers(self):
        for thing in no_papers({"hidden": 1, "given": 1}):
            self.assertEqual(outcome(check_secret, FORK, ONES, (0,), thing), ("BadPaper", "form"), thing)
        for thing in no_papers({"masks": 2}):
            self.assertEqual(outcome(check_masks, FORK, ONES, thing), ("BadPaper", "form"), thing)

    def test_given(self):
        for run, is_so in (((1,), True), ((1, 2, 1), True), ((1, 2, 0), False), ((1, 2), True), ((), False), ((0,), False), ([1], False),
                           ((True,), False), ((1.0,), False), (None, False), ((1, 1), False), ((0, 2) * 500 + (1,), True), ((3,), False)):
            due = ("ok", "given") if is_so else ("BadPaper", "given")
            self.assertEqual(outcome(check_secret, FORK, ONES, (0, 1, 2), ("given", run)), due, run)
        self.assertEqual(outcome(check_secret, FORK, ONES, (0,), ("given", (1,))), ("BadPaper", "given"))

    def test_guesses_that_need_not_come(self):
        table = secret_paper(FORK, ONES, (0,))[1]
        found = 0
        pairs = list(itertools.product(((0,), (1,), (2,)), (0, 1)))
        for many in (1, 2, 3):
            for extra in itertools.combinations(pairs, many):
                thing = ("hidden", tuple(sorted({*table, extra})))
                due = told_check(FORK, ONES, (0,), thing)
                found += due[0] == "ok"
                self.assertEqual(outcome(check_secret, FORK, ONES, (0,), thing), due)
        self.assertGreater(found, 3)
        for extra in ((), (((3,), 0),), (((0,), 2),), (((0,), 0), ((0,), 0)), (((1,), 0), ((0,), 0)), (((0,), True),)):
            thing = ("hidden", tuple(sorted(table + (extra,))))
            self.assertEqual(outcome(check_secret, FORK, ONES, (0,), thing), ("BadPaper", "hidden"), extra)

    def test_papers_that_are_otherwise(self):
        chance = chance_of(185)
        many = {}
        for works, wish, sight in cases(186, 80):
            hold_papers(self, check_secret, told_check, (works, wish, sight), secret_paper(works, wish, sight), chance, 100, many)
            hold_papers(self, check_masks, told_check_masks, (works, wish), mask_paper(works, wish), chance, 60, many)
        self.assertTrue(len(many) == 3 and min(many.values()) > 5, many)

    def test_papers_of_others(self):
        chance = chance_of(187)
        many = 0
        for works, wish, sight in cases(188, 120):
            near = (wish[0], tuple(sorted({0} | {state for state in range(len(wish[0])) if chance.random() < 0.6})))
            paper = secret_paper(works, wish, sight)
            for args in ((works, near, sight), (works, wish, some_lot(chance, works[0]))):
                due = told_check(*args, paper)
                many += due[0] == "ok"
                self.assertEqual(outcome(check_secret, *args, paper), due)
            masks = mask_paper(works, wish)
            self.assertEqual(outcome(check_masks, works, near, masks), told_check_masks(works, near, masks))
        self.assertGreater(many, 50)


if __name__ == "__main__":
    unittest.main()
