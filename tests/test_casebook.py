"""[101] CASES and BOOKS, and their texts: worksward/casebook.py, worksward/booktexts.py; and over the whole program."""

import unittest

from common import (CUBE, MANY, RING, SPANS61, Equal, Odd, chance_of, junk, mutations, outcome, same_kind, some_log, some_lot, some_posts,
                    some_team, some_wire, some_wish, some_works, told_places, told_tuple)
from worksward.aims import aim_paper
from worksward.alikes import alike_paper
from worksward.booktexts import book_text, case_text, read_book, read_case
from worksward.casebook import judge, judged, names, need_case
from worksward.costs import least_paper, most_paper
from worksward.desk import Desk
from worksward.errors import BadPaper, BadText, BadWorks, OutOfPlace, TooMany
from worksward.exacts import exact_paper
from worksward.faults import told_paper
from worksward.follows import follow_paper, same_paper
from worksward.foresight import foreseen_paper
from worksward.keeping import keeping_paper
from worksward.logfits import fit_paper
from worksward.marks import mark_paper
from worksward.normals import normal_paper
from worksward.plans import renamed
from worksward.posts import post_paper
from worksward.secrets import mask_paper, secret_paper
from worksward.sightkeeps import sight_paper
from worksward.teams import bring_paper, within_paper
from worksward.things import is_thing, thing_text
from worksward.totals import total_paper
from worksward.wirekeeps import wire_paper
from worksward.wishes import wish_renamed

SIZES = {"alike": 2, "follow": 3, "same": 3, "keeping": 2, "exact": 2, "sight": 3, "normal": 3, "aim": 2, "posts": 3, "within": 4, "bring": 3,
         "told": 3, "foreseen": 3, "secret": 3, "masks": 2, "mean": 3, "total": 3, "wire": 3, "fit": 3, "marks": 2}
# What tells a paper for each NAME, by its ARGS; a total is told for 5.
CALLS = {"alike": alike_paper, "follow": follow_paper, "same": same_paper, "keeping": keeping_paper, "exact": exact_paper, "sight": sight_paper,
         "normal": normal_paper, "aim": aim_paper, "posts": post_paper, "within": within_paper, "bring": bring_paper, "told": told_paper,
         "foreseen": foreseen_paper, "secret": secret_paper, "masks": mask_paper, "mean": most_paper, "total": lambda *args: total_paper(*args, 5),
         "wire": wire_paper, "fit": fit_paper, "marks": mark_paper}
ALL2 = (((0, 0),), (0,))
GOOD = ("keeping", (RING, ALL2), ("kept", ((((0,), 0), (0,)), (((1,), 0), (0,)), (((2,), 0), (0, 1)))))
WRONG = ("keeping", (RING, ALL2), ("kept", ()))
FORM = ("keeping", (RING, ALL2), None)
REFUSED = ("keeping", (None, ALL2), GOOD[2])


def some_args(chance):
    """A dict of ARGS for each NAME, of WORKS with few places."""
    while True:
        works = some_works(chance, chance.randint(2, 3), chance.randint(1, 2), most=3, part=0.8)
        if len(told_places(works)) <= 6:
            break
    deeds = works[0]
    wish, other = some_wish(chance, deeds, 2, 0.6), some_wish(chance, deeds, 2, 0.6)
    sight, posts = some_lot(chance, deeds), some_posts(chance, works, 2)
    team = some_team(chance, posts, 0.3)
    faults = some_lot(chance, deeds) or (0,)
    prices = tuple(chance.randint(0, 9) for _ in range(deeds))
    log = some_log(chance, deeds, most=3, many=2)
    beside = some_works(chance, deeds, 1, most=3, part=0.9)
    return {"alike": (works, chance.choice([works, beside])), "follow": (works, wish, other), "same": (deeds, wish, chance.choice([wish, other])),
            "keeping": (works, wish), "exact": (works, wish), "sight": (works, wish, sight), "normal": (works, wish, sight), "aim": (works, sight),
            "posts": (works, wish, posts), "within": (works, wish, posts, team), "bring": (works, posts, team), "told": (works, faults, sight),
            "foreseen": (works, faults, sight), "secret": (works, wish, sight), "masks": (works, wish), "mean": (works, wish, prices),
            "total": (works, wish, prices), "wire": (works, wish, some_wire(chance, works)), "fit": (works, wish, log), "marks": (deeds, log)}


def some_cases(chance):
    """A CASE that holds for each NAME, as far as there is a paper."""
    found = []
    for name, args in some_args(chance).items():
        told = outcome(CALLS[name], *args)
        if told[0] == "ok":
            found.append((name, args, told[1]))
    return found


def with_names(name, args, order):
    """ARGS by other names of deeds."""
    def lot(deeds):
        return tuple(sorted(order[deed] for deed in deeds))

    def turned(row):
        return tuple(row[order.index(deed)] for deed in range(len(order)))

    def log_of(log):
        return tuple((lot(seen), loss, tuple(order[deed] for deed in row), word) for seen, loss, row, word in log)
    ways = {"works": lambda thing: renamed(thing, order), "wish": lambda thing: wish_renamed(len(order), thing, order), "lot": lot, "deeds": lambda thing: thing,
            "posts": lambda thing: tuple((lot(sight), lot(held)) for sight, held in thing), "prices": turned, "log": log_of,
            "wire": lambda thing: (lot(thing[0]),) + thing[1:]}
    kinds = {"alike": ("works", "works"), "follow": ("works", "wish", "wish"), "same": ("deeds", "wish", "wish"), "keeping": ("works", "wish"),
             "exact": ("works", "wish"), "sight": ("works", "wish", "lot"), "normal": ("works", "wish", "lot"), "aim": ("works", "lot"),
             "posts": ("works", "wish", "posts"), "told": ("works", "lot", "lot"), "foreseen": ("works", "lot", "lot"), "secret": ("works", "wish", "lot"),
             "masks": ("works", "wish"), "mean": ("works", "wish", "prices"), "total": ("works", "wish", "prices"), "wire": ("works", "wish", "wire"),
             "fit": ("works", "wish", "log"), "marks": ("deeds", "log")}
    if name not in kinds:
        return None
    return tuple(ways[kind](arg) for kind, arg in zip(kinds[name], args))


def team_with_names(posts, team, order):
    """A TEAM by other names: its NEXTS stand in the order of the SIGHT by these."""
    found = []
    for (sight, _), mind in zip(posts, team):
        by = sorted(range(len(sight)), key=lambda at: order[sight[at]])
        found.append(tuple((tuple(sorted(order[deed] for deed in forbidden)), tuple(nexts[at] for at in by)) for forbidden, nexts in mind))
    return tuple(found)


class Names(unittest.TestCase):
    def test_names(self):
        self.assertEqual(names(), tuple(sorted(SIZES)))
        self.assertEqual(len(names()), 20)

    def test_cases(self):
        for name, many in SIZES.items():
            for size in range(6):
                for paper in (None, (), ("kept", ()), Odd(), []):
                    case = (name, (None,) * size, paper)
                    if size == many:
                        self.assertIs(need_case(case), case)
                    else:
                        for call in (need_case, judge, case_text):
                            self.assertEqual(outcome(call, case), ("OutOfPlace",), case)

    def test_what_is_no_case(self):
        for thing in junk() + [GOOD[:2], GOOD + (0,), list(GOOD), ("Keeping",) + GOOD[1:], (None,) + GOOD[1:], (Equal(),) + GOOD[1:], ("keepin",) + GOOD[1:],
                               (b"keeping",) + GOOD[1:], (("keeping",),) + GOOD[1:], ([],) + GOOD[1:], GOOD[:1] + ([RING, ALL2],) + GOOD[2:],
                               GOOD[:1] + (None,) + GOOD[2:], GOOD[:1] + ("ab",) + GOOD[2:], ("", (), None), (GOOD, GOOD, GOOD)]:
            for call in (need_case, judge, case_text):
                self.assertEqual(outcome(call, thing), ("OutOfPlace",), thing)
            self.assertEqual(outcome(judged, (GOOD, thing)), ("OutOfPlace",))
            self.assertEqual(outcome(book_text, (thing,)), ("OutOfPlace",))


class Judging(unittest.TestCase):
    def test_judge(self):
        self.assertEqual(judge(GOOD), "kept")
        self.assertEqual(outcome(judge, WRONG), ("BadPaper", "kept"))
        self.assertEqual(outcome(judge, FORM), ("BadPaper", "form"))
        self.assertEqual(outcome(judge, REFUSED), ("BadWorks", "form"))
        self.assertEqual(outcome(judge, ("keeping", (MANY, ALL2), None)), ("TooMany", 24))
        self.assertEqual(outcome(judge, ("wire", SPANS61, None)), ("TooMany", 60))
        self.assertEqual(outcome(judge, ("fit", (RING, ALL2, None), None)), ("BadLog", "form"))
        self.assertEqual(outcome(judge, ("wire", (RING, ALL2, ()), None)), ("BadWire", "form"))
        self.assertEqual(outcome(judge, ("posts", (RING, ALL2, ()), None)), ("BadPost", "form"))
        self.assertEqual(outcome(judge, ("follow", (RING, ALL2, ()), None)), ("BadWish", "form"))
        self.assertEqual(outcome(judge, ("marks", (7, ()), None)), ("OutOfPlace",))

    def test_judged(self):
        self.assertEqual(judged(()), ())
        self.assertEqual(judged((GOOD, WRONG, FORM, REFUSED)), ("kept", ("wrong", "kept"), ("wrong", "form"), ("refused",)))
        for case in (("keeping", (MANY, ALL2), None), ("wire", SPANS61, None), ("fit", (RING, ALL2, None), None), ("wire", (RING, ALL2, ()), None),
                     ("posts", (RING, ALL2, ()), None), ("follow", (RING, ALL2, ()), None), ("marks", (7, ()), None), ("mean", (RING, ALL2, (10, 0)), None)):
            self.assertEqual(judged((case,)), (("refused",),))
            self.assertEqual(judged((GOOD, case, GOOD)), ("kept", ("refused",), "kept"))

    def test_12_cases_and_13(self):
        self.assertEqual(judged((GOOD,) * 12), ("kept",) * 12)
        self.assertEqual(outcome(judged, (GOOD,) * 13), ("OutOfPlace",))
        for thing in (None, [GOOD], GOOD, "", 0, {GOOD: 0}, (None,), Equal()):
            self.assertEqual(outcome(judged, thing), ("OutOfPlace",), thing)
            self.assertEqual(outcome(book_text, thing), ("OutOfPlace",), thing)

    def test_each_name_with_a_paper_that_holds_and_one_that_does_not(self):
        chance = chance_of(390)
        words = {}
        for _ in range(60):
            for name, args, paper in some_cases(chance):
                self.assertEqual(judge((name, args, paper)), paper[0])
                self.assertEqual(judged(((name, args, paper),)), (paper[0],))
                words.setdefault(name, set()).add(paper[0])
                bad = (name, args, paper[:1] + (Odd(),) * (len(paper) - 1))
                self.assertEqual(judged((bad,)), (("wrong", paper[0]),))
                self.assertEqual(judged(((name, args, paper[1:]),)), (("wrong", "form"),))
                self.assertEqual(judged(((name, (None,) + args[1:], paper),)), (("refused",),))
        self.assertEqual(set(words), set(SIZES))
        self.assertTrue(all(len(found) > 1 for name, found in words.items() if name not in ("normal", "masks", "mean")), words)

    def test_least_means_too(self):
        chance = chance_of(391)
        for _ in range(40):
            args = some_args(chance)["mean"]
            told = outcome(least_paper, *args)
            if told[0] == "ok":
                self.assertEqual(judge(("mean", args, told[1])), "least")

    def test_errors_that_go_on(self):
        with self.assertRaises(BadWorks):
            judge(REFUSED)
        with self.assertRaises(BadPaper):
            judge(WRONG)
        with self.assertRaises(TooMany):
            judge(("keeping", (MANY, ALL2), None))
        with self.assertRaises(OutOfPlace):
            judge(None)

    def test_papers_that_are_otherwise(self):
        # Judged as the check does, by whatever stands in it.
        chance = chance_of(392)
        seen = {}
        for _ in range(25):
            for case in some_cases(chance):
                if not is_thing(case) or len(case_text(case)) > 900:
                    continue
                for thing in mutations(case[2], chance, 12):
                    found = judged((case[:2] + (thing,),))[0]
                    seen[found if type(found) is str else found[0]] = 1
                    self.assertIn(found if type(found) is str else found[0], (thing[0] if told_tuple(thing, 1, 9) else None, "wrong"))
                for thing in mutations(case[1], chance, 6):
                    if told_tuple(thing, SIZES[case[0]], SIZES[case[0]]):
                        found = judged(((case[0], thing, case[2]),))[0]
                        seen[found if type(found) is str else found[0]] = 1
        self.assertTrue({"wrong", "refused"} <= set(seen))


class Texts(unittest.TestCase):
    def test_ordinary(self):
        text = "(keeping ((2 (((0 1) (((0 1)) ((0 2)) ((0 0) (1 2))))) (1) ((2))) (((0 0)) (0))) (kept ((((0) 0) (0)) (((1) 0) (0)) (((2) 0) (0 1)))))"
        self.assertEqual(case_text(GOOD), text)
        self.assertTrue(same_kind(read_case(text), GOOD))
        self.assertEqual(book_text((GOOD, FORM)), text + "\n" + text[:text.index("(kept")] + ".)")
        self.assertEqual(read_book(text + "\n" + text), (GOOD, GOOD))

    def test_the_empty_book(self):
        self.assertEqual(book_text(()), "")
        self.assertEqual(read_book(""), ())

    def test_what_is_no_thing(self):
        for paper in (Odd(), 1.0, [], "Kept", ("kept", [0]), 10 ** 31, (0,) * 4000, "", b"a"):
            case = GOOD[:2] + (paper,)
            self.assertIs(need_case(case), case)
            self.assertEqual(outcome(case_text, case), ("OutOfPlace",), paper)
            self.assertEqual(outcome(book_text, (GOOD, case)), ("OutOfPlace",), paper)
            self.assertEqual(judged((case,))[0][0], "wrong")

    def test_texts_that_write_no_case(self):
        good = case_text(GOOD)
        for string in ("", "()", "0", "keeping", "(keeping () ())", "(keeping (0) ())", "(keeping (0 0 0) ())", "(keping (0 0) ())", "(keeping (0 0))", good + " ", " " + good,
                       good + "\n", good[:-1], good + ")", "\n", good + "\n" + good, good.replace("keeping", "keepin"), good.replace(" ", "  "), "(keeping 0 ())", "(0 (0 0) 0)"):
            self.assertEqual(outcome(read_case, string), ("BadText", 1), string)
        for string in (None, 0, b"", [], (), good.encode(), Equal(), Odd()):
            self.assertEqual(outcome(read_case, string), ("BadText", 0))
            self.assertEqual(outcome(read_book, string), ("BadText", 0))
        self.assertEqual(read_case("(keeping (0 0) ())"), ("keeping", (0, 0), ()))

    def test_rows_of_books(self):
        good = case_text(GOOD)
        for many in range(1, 13):
            self.assertEqual(read_book("\n".join([good] * many)), (GOOD,) * many)
            self.assertEqual(outcome(read_book, "\n".join([good] * many) + "\n"), ("BadText", many + 1))
            self.assertEqual(outcome(read_book, "\n" + "\n".join([good] * many)), ("BadText", 1))
            for at in range(many):
                rows = [good] * many
                rows[at] = "(keeping (0) ())"
                self.assertEqual(outcome(read_book, "\n".join(rows)), ("BadText", at + 1))
                if at + 1 < many:
                    rows[-1] = ""
                    self.assertEqual(outcome(read_book, "\n".join(rows)), ("BadText", at + 1))
        # The row behind the last one that a BOOK may have, whatever it is; an earlier one that writes none comes first.
        for more in ([good], [""], ["0", good], [good] * 30):
            self.assertEqual(outcome(read_book, "\n".join([good] * 12 + more)), ("BadText", 13))
            self.assertEqual(outcome(read_book, "\n".join([good] * 11 + ["0"] + more)), ("BadText", 12))
        self.assertEqual(outcome(read_book, "\n"), ("BadText", 1))
        self.assertEqual(outcome(read_book, " "), ("BadText", 1))
        with self.assertRaises(BadText):
            read_book(good + "\r\n" + good)


class WholeProgram(unittest.TestCase):
    def test_papers_of_all_parts_by_book_and_desk(self):
        chance = chance_of(393)
        many = 0
        for _ in range(25):
            cases = [case for case in some_cases(chance) if is_thing(case)]
            for book in (tuple(cases[:12]), tuple(cases[12:])):
                text = book_text(book)
                self.assertEqual(text, "\n".join(case_text(case) for case in book))
                again = read_book(text)
                self.assertTrue(same_kind(again, book))
                self.assertEqual(judged(again), tuple(case[2][0] for case in book))
            for case in cases:
                many += 1
                desk = Desk()
                self.assertEqual(desk.say("judge " + case_text(case)), case[2][0])
                bad = case[:2] + (case[2][:1] + (None,) * (len(case[2]) - 1),)
                self.assertEqual(desk.say("judge " + thing_text(bad)), "wrong " + case[2][0])
                self.assertEqual(desk.say("judge " + thing_text((case[0], (None,) + case[1][1:], case[2]))), "refused")
                self.assertIs(desk.house, None)
        self.assertGreater(many, 300)

    def test_other_names(self):
        chance = chance_of(394)
        seen = {}
        for _ in range(60):
            args = some_args(chance)
            order = list(range(args["keeping"][0][0]))
            chance.shuffle(order)
            order = tuple(order)
            for name in SIZES:
                other = with_names(name, args[name], order)
                if name == "within":
                    works, wish, posts, team = args[name]
                    other = with_names("posts", (works, wish, posts), order) + (team_with_names(posts, team, order),)
                elif name == "bring":
                    works, posts, team = args[name]
                    other = (renamed(works, order), with_names("posts", (works, args["posts"][1], posts), order)[2], team_with_names(posts, team, order))
                one, two = outcome(CALLS[name], *args[name]), outcome(CALLS[name], *other)
                if one[0] == "ok":
                    self.assertEqual(two[0], "ok", (name, args[name], order))
                    self.assertEqual(one[1][0], two[1][0], (name, args[name], order))
                    self.assertEqual(judge((name, other, two[1])), one[1][0])
                    seen[name, one[1][0]] = 1
                else:
                    self.assertEqual(one, two)
        self.assertGreater(len(seen), 32)

    def test_cube(self):
        # WORKS with as many places as may come, in all calls that have no lesser bound.
        wish = (((0, 0, 0),), (0,))
        for name, args in (("keeping", (CUBE, wish)), ("exact", (CUBE, wish)), ("alike", (CUBE, CUBE)), ("follow", (CUBE, wish, wish)),
                           ("mean", (CUBE, wish, (1, 2, 3))), ("total", (CUBE, wish, (1, 2, 3))), ("wire", (CUBE, wish, ((0,), 0, 0))),
                           ("fit", (CUBE, wish, (((0, 1), 1, (0, 1, 0), "done"),)))):
            paper = CALLS[name](*args)
            self.assertEqual(judge((name, args, paper)), paper[0])
        for name, args, most in (("sight", (CUBE, wish, ()), 12), ("aim", (CUBE, ()), 8), ("posts", (CUBE, wish, (((), ()),) * 2), 8), ("told", (CUBE, (0,), ()), 12),
                                 ("secret", (CUBE, wish, ()), 8), ("wire", (CUBE, wish, ((0,), 2, 1)), 60)):
            self.assertEqual(outcome(judge, (name, args, None)), ("TooMany", most))


if __name__ == "__main__":
    unittest.main()
