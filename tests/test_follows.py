"""[21], [22] Which wishes follow, which are the same, the papers on both: worksward/follows.py, worksward/wishpapers.py."""

import unittest

from common import (RING, SAMPLES, SHARED, STILL, TRAP, chance_of, mutations, outcome, some_wish, some_works, told_ascending,
                    told_do, told_int, told_is_place, told_place, told_rows, told_runs, told_start, told_tuple, told_wished)
from worksward.errors import BadPaper
from worksward.follows import are_same, does_follow, follow_paper, parting_row, same_paper
from worksward.wishes import join, least_wish, meet
from worksward.wishpapers import check_follow, check_same

ALL = (((0, 0),), (0,))
NONE = (((1, 1), (1, 1)), (0,))
APART = (((0, 1), (0, 2), (0, 0)), (0, 1))
# The same as APART with other states.
APART_TOO = (((2, 1), (2, 3), (0, 1), (1, 3)), (0, 1, 2))
# Of 0 in a row at most one.
APART_0 = (((1, 0), (2, 0), (0, 0)), (0, 1))


def told_good(wish, thing):
    return type(thing) is int and thing in wish[1]


def told_follows(works, wish, other):
    """Whether no RUN is wished by the other one and not by the WISH, by all triples that come."""
    waiting = [(told_start(works), 0, 0)]
    known = set(waiting)
    while waiting:
        place, one, two = waiting.pop()
        for deed in range(works[0]):
            after = (told_do(works, place, deed), other[0][one][deed], wish[0][two][deed])
            if after[0] is None or after[1] not in other[1]:
                continue
            if after[2] not in wish[1]:
                return False
            if after not in known:
                known.add(after)
                waiting.append(after)
    return True


def told_check_follow(works, wish, other, paper):
    if not told_tuple(paper, 2, 2) or type(paper[0]) is not str or paper[0] not in ("follows", "not"):
        return ("BadPaper", "form")
    word, thing = paper
    bad = ("BadPaper", word)
    if type(thing) is not tuple:
        return bad
    if word == "not":
        if not all(told_int(deed, 0, works[0] - 1) for deed in thing) or told_place(works, thing) is None:
            return bad
        return ("ok", word) if told_wished(other, thing) and not told_wished(wish, thing) else bad
    for row in thing:
        if not told_tuple(row, 3, 3) or not told_is_place(works, row[0]):
            return bad
        if not told_good(other, row[1]) or not told_good(wish, row[2]):
            return bad
    if not told_ascending(thing) or (told_start(works), 0, 0) not in thing:
        return bad
    for place, one, two in thing:
        for deed in range(works[0]):
            after = told_do(works, place, deed)
            if after is not None and other[0][one][deed] in other[1]:
                if (after, other[0][one][deed], wish[0][two][deed]) not in thing:
                    return bad
    return ("ok", word)


def told_check_same(deeds, wish, other, paper):
    if not told_tuple(paper, 2, 2) or type(paper[0]) is not str or paper[0] not in ("same", "unlike"):
        return ("BadPaper", "form")
    word, thing = paper
    bad = ("BadPaper", word)
    if type(thing) is not tuple:
        return bad
    if word == "unlike":
        if not all(told_int(deed, 0, deeds - 1) for deed in thing):
            return bad
        return ("ok", word) if told_wished(wish, thing) != told_wished(other, thing) else bad
    if not all(told_tuple(row, 2, 2) and told_good(wish, row[0]) and told_good(other, row[1]) for row in thing):
        return bad
    if not told_ascending(thing) or (0, 0) not in thing:
        return bad
    for one, two in thing:
        for deed in range(deeds):
            both = (wish[0][one][deed], other[0][two][deed])
            if both not in thing and (both[0] in wish[1] or both[1] in other[1]):
                return bad
    return ("ok", word)


def near(chance, deeds, wish):
    """A WISH near to another one: with one step otherwise, or one good state less or more."""
    steps, good = wish
    state = chance.randrange(len(steps))
    if chance.random() < 0.3:
        return (steps, tuple(sorted({0} | set(good) ^ {state})))
    row = list(steps[state])
    row[chance.randrange(deeds)] = chance.randrange(len(steps))
    return (steps[:state] + (tuple(row),) + steps[state + 1:], good)


def triples(seed, many):
    chance = chance_of(seed)
    for _ in range(many):
        works = some_works(chance, chance.randint(1, 3), most=3, part=0.8)
        wish = some_wish(chance, works[0], part=chance.choice((0.5, 0.8)))
        other = near(chance, works[0], wish) if chance.random() < 0.7 else some_wish(chance, works[0], 4)
        yield works, wish, other


class Follows(unittest.TestCase):
    def test_follows(self):
        # wish, then the other one from which it follows or not.
        self.assertIs(does_follow(RING, ALL, APART), True)
        self.assertIs(does_follow(RING, APART, ALL), False)
        self.assertIs(does_follow(RING, APART, NONE), True)
        self.assertIs(does_follow(RING, NONE, APART), False)
        self.assertIs(does_follow(RING, APART, APART_TOO), True)
        self.assertEqual(follow_paper(RING, APART, ALL), ("not", (0, 0, 1, 1)))
        # In these WORKS 0 is never done twice in a row behind 1; so what is not the same follows.
        self.assertIs(does_follow(STILL, (((1,), (1,)), (0,)), (((0,),), (0,))), True)

    def test_follows_by_what_works_can_do(self):
        works = (2, (((0, 1), (((0, 1),), ((1, 0),))),), (), ((0,),))
        self.assertIs(does_follow(works, APART_0, ALL), True)
        self.assertIs(does_follow(works, APART, ALL), True)
        self.assertIs(are_same(2, APART, ALL), False)

    def test_by_chance(self):
        seen = {True: 0, False: 0}
        for works, wish, other in triples(30, 250):
            follows = told_follows(works, wish, other)
            seen[follows] += 1
            self.assertIs(does_follow(works, wish, other), follows)
            paper = follow_paper(works, wish, other)
            self.assertEqual(paper[0], "follows" if follows else "not")
            self.assertEqual(check_follow(works, wish, other, paper), paper[0])
            self.assertEqual(told_check_follow(works, wish, other, paper), ("ok", paper[0]))
            for run in told_runs(works, 3):
                if told_wished(other, run) and not told_wished(wish, run):
                    self.assertFalse(follows)
        self.assertTrue(min(seen.values()) > 10, seen)

    def test_meet_and_join_follow_in_all_works(self):
        for works, wish, other in triples(31, 80):
            both = outcome(meet, works[0], wish, other)
            some = outcome(join, works[0], wish, other)
            for one in (wish, other):
                if both[0] == "ok":
                    self.assertIs(does_follow(works, one, both[1]), True)
                if some[0] == "ok":
                    self.assertIs(does_follow(works, some[1], one), True)


class Same(unittest.TestCase):
    def test_same(self):
        self.assertIs(are_same(2, APART, APART_TOO), True)
        self.assertIsNone(parting_row(2, APART, APART_TOO))
        self.assertEqual(same_paper(2, APART, APART_TOO)[0], "same")
        self.assertIs(are_same(2, APART, ALL), False)
        self.assertEqual(parting_row(2, APART, ALL), (1, 1))
        self.assertEqual(parting_row(2, ALL, APART), (1, 1))
        self.assertEqual(same_paper(2, ALL, APART), ("unlike", (1, 1)))
        self.assertEqual(parting_row(2, APART, APART_0), (0, 0))
        self.assertEqual(parting_row(2, NONE, APART), (0,))
        self.assertIsNone(parting_row(2, NONE, NONE))

    def test_the_first_row(self):
        one = (((1, 2), (1, 2), (1, 2)), (0, 1, 2))
        two = (((1, 2), (1, 2), (3, 2), (3, 3)), (0, 1, 2))
        self.assertEqual(parting_row(2, one, two), (1, 0))
        three = (((1, 2), (1, 3), (3, 2), (3, 3)), (0, 1, 2))
        self.assertEqual(parting_row(2, one, three), (0, 1))
        self.assertEqual(parting_row(2, two, three), (0, 1))

    def test_by_chance(self):
        chance = chance_of(32)
        seen = {True: 0, False: 0}
        for _ in range(250):
            deeds = chance.randint(1, 3)
            one = some_wish(chance, deeds, part=0.8)
            two = near(chance, deeds, one) if chance.random() < 0.7 else least_wish(deeds, one)
            row = parting_row(deeds, one, two)
            seen[row is None] += 1
            self.assertIs(are_same(deeds, one, two), row is None)
            paper = same_paper(deeds, one, two)
            self.assertEqual(paper[0], "same" if row is None else "unlike")
            self.assertEqual(check_same(deeds, one, two, paper), paper[0])
            self.assertEqual(told_check_same(deeds, one, two, paper), ("ok", paper[0]))
            free = (deeds, ((tuple(range(deeds)), (tuple((deed, 0) for deed in range(deeds)),)),), (), ((),))
            self.assertIs(does_follow(free, one, two) and does_follow(free, two, one), row is None)
            parting = [short for short in told_rows(deeds, {1: 12, 2: 6, 3: 4}[deeds])
                       if told_wished(one, short) != told_wished(two, short)]
            if parting:
                self.assertEqual(row, parting[0])
            elif row is not None:
                self.assertNotEqual(told_wished(one, row), told_wished(two, row))
        self.assertTrue(min(seen.values()) > 20, seen)


class WishPapers(unittest.TestCase):
    def bad(self, part, call, *args):
        with self.assertRaises(BadPaper) as caught:
            call(*args)
        self.assertEqual(caught.exception.part, part, args)

    def test_words_and_form(self):
        for paper in (None, (), "follows", ["follows", ()], ("follows",), ("follows", (), ()), ("not",), ("not", (), ()),
                      ("same", ()), ("unlike", ()), (True, ()), (None, ()), ([], ()), (("not",), ()), (b"not", ())):
            self.bad("form", check_follow, RING, ALL, APART, paper)
        for paper in (None, (), "same", ["same", ()], ("same",), ("same", (), ()), ("unlike",), ("unlike", (), ()),
                      ("follows", ()), ("not", ()), (True, ()), (None, ()), ({}, ()), (("same",), ()), (b"same", ())):
            self.bad("form", check_same, 2, ALL, APART, paper)

    def test_follow_tables(self):
        # The state of the other WISH stands ahead of that of the WISH.
        table = (((0,), 0, 0), ((1,), 0, 0), ((2,), 0, 0), ((2,), 1, 0))
        self.assertEqual(check_follow(RING, ALL, APART, ("follows", table)), "follows")
        for bad in ((), table[1:], table[:3], table[::-1], table + table[-1:], list(table), None, (table,),
                    (((0,), 0, 0), ((1,), 0, 0), ((2,), 0, 0), ((2,), 0, 1)), table[:3] + (((2,), True, 0),),
                    table[:3] + (((2,), 1, False),), table[:3] + (((2,), 1.0, 0),), table[:3] + (((2,), 1),),
                    table[:3] + (((2,), 1, 0, 0),), table[:3] + ([(2,), 1, 0],), table[:3] + (([2], 1, 0),),
                    table + (((2,), 2, 0),), table + (((3,), 0, 0),), table + (((2,), 1, 1),), (((True,), 0, 0),) + table,
                    (((0,), 0),) + table[1:], (0, 0, 0), 5):
            self.bad("follows", check_follow, RING, ALL, APART, ("follows", bad))
        # Places need not come.
        lame = (1, (((0,), ((), (), ())),), (), ((0,),))
        wish = (((0,),), (0,))
        self.assertEqual(check_follow(lame, wish, wish, ("follows", (((0,), 0, 0), ((2,), 0, 0)))), "follows")

    def test_runs(self):
        self.assertEqual(check_follow(RING, APART, ALL, ("not", (0, 0, 1, 1))), "not")
        self.assertEqual(check_follow(RING, APART, ALL, ("not", (0, 0, 1, 1, 0))), "not")
        self.assertEqual(check_follow(RING, APART, ALL, ("not", (0, 0, 0) * 200 + (0, 0, 1, 1))), "not")
        for run in ((), (0, 0, 1), (1, 1), (0, 1, 1), None, [0, 0, 1, 1], (0, 0, True, 1), (0, 0, 1.0, 1), (2,), "0011"):
            self.bad("not", check_follow, RING, APART, ALL, ("not", run))
        # The other WISH does not wish it either.
        self.bad("not", check_follow, RING, APART, NONE, ("not", (0, 0, 1, 1)))
        self.bad("not", check_follow, RING, ALL, APART, ("not", (0, 0, 1, 1)))

    def test_same_tables(self):
        table = ((0, 0), (0, 2), (1, 1))
        self.assertEqual(check_same(2, APART, APART_TOO, ("same", table)), "same")
        for bad in ((), table[1:], table[:2], table[::-1], table + table[-1:], list(table), None, (table,), (0, 0),
                    ((False, 0),) + table[1:], ((0.0, 0),) + table[1:], ((0, 0, 0),) + table[1:], ([0, 0],) + table[1:],
                    table + ((2, 1),), table + ((1, 3),), table + ((1, 2),), table[:2] + ((1, True),)):
            self.bad("same", check_same, 2, APART, APART_TOO, ("same", bad))
        # One goes on, the other one does not, in either order.
        self.bad("same", check_same, 2, ALL, NONE, ("same", ((0, 0),)))
        self.bad("same", check_same, 2, NONE, ALL, ("same", ((0, 0),)))

    def test_rows(self):
        self.assertEqual(check_same(2, APART, ALL, ("unlike", (1, 1))), "unlike")
        self.assertEqual(check_same(2, ALL, APART, ("unlike", (0, 1, 1, 0))), "unlike")
        self.assertEqual(check_same(2, ALL, APART, ("unlike", (0,) * 500 + (1, 1))), "unlike")
        for row in ((), (1,), (1, 0, 1), None, [1, 1], (True, 1), (1.0, 1), (1, 1, 2), "11", (1, 1, None), (1, 1, ())):
            self.bad("unlike", check_same, 2, APART, ALL, ("unlike", row))
        self.bad("unlike", check_same, 2, APART, APART_TOO, ("unlike", (1, 1)))

    def test_follow_papers_that_are_otherwise(self):
        chance = chance_of(33)
        many = 0
        for works, wish, other in triples(34, 30):
            for thing in mutations(follow_paper(works, wish, other), chance, 200):
                due = told_check_follow(works, wish, other, thing)
                self.assertEqual(outcome(check_follow, works, wish, other, thing), due, thing)
                many += due[0] == "ok"
        self.assertGreater(many, 5)

    def test_same_papers_that_are_otherwise(self):
        chance = chance_of(35)
        many = 0
        for works, wish, other in triples(36, 30):
            for two in (other, least_wish(works[0], wish)):
                for thing in mutations(same_paper(works[0], wish, two), chance, 150):
                    due = told_check_same(works[0], wish, two, thing)
                    self.assertEqual(outcome(check_same, works[0], wish, two, thing), due, thing)
                    many += due[0] == "ok"
        self.assertGreater(many, 5)

    def test_wider_tables_hold_too(self):
        # All triples from which nothing is missing, whether or not they come.
        for works in SAMPLES:
            wish = (((0,) * works[0],), (0,))
            paper = ("follows", tuple(sorted((place, 0, 0) for place in all_places(works))))
            self.assertEqual(check_follow(works, wish, wish, paper), "follows")

    def test_order_of_errors(self):
        four = (((0, 0, 0, 0),), (0,))
        self.assertEqual(outcome(check_follow, None, None, None, None), ("BadWorks", "form"))
        self.assertEqual(outcome(check_follow, SHARED, None, None, None), ("BadWish", "form"))
        self.assertEqual(outcome(check_follow, SHARED, four, ALL, None), ("BadWish", "steps"))
        self.assertEqual(outcome(check_follow, SHARED, four, four, None), ("BadPaper", "form"))
        self.assertEqual(outcome(check_follow, TRAP, ALL, (1, 2, 3), None), ("BadWish", "steps"))
        self.assertEqual(outcome(check_same, 0, None, None, None), ("OutOfPlace",))
        self.assertEqual(outcome(check_same, 2, ALL, (((0, 0),), ()), None), ("BadWish", "good"))


def all_places(works):
    found = [()]
    for machine in works[1]:
        found = [place + (state,) for place in found for state in range(len(machine[1]))]
    return found


if __name__ == "__main__":
    unittest.main()
