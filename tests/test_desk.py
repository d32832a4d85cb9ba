"""Lines of the desk: worksward/desk.py."""

import unittest

from common import (CUBE, MANY, RING, STILL, TRAP, Equal, Odd, chance_of, junk, outcome, some_posts, some_team, some_wish, some_works,
                    told_node, told_place, told_wish, told_works)
from worksward.alikes import are_alike
from worksward.booktexts import case_text
from worksward.casebook import judged
from worksward.desk import Desk
from worksward.exacts import exact_paper, is_exact
from worksward.house import House
from worksward.keeping import can_keep, keeping_paper
from worksward.sightkeeps import can_keep_by
from worksward.things import thing_text
from worksward.wishes import do_keep

ALL2 = (((0, 0),), (0,))
SELDOM = (((0, 1), (0, 2), (2, 2)), (0, 1))
FORK = (3, (((0, 1, 2), (((0, 1), (1, 2)), ((2, 0),), ((2, 0),))),), (), ((0,),))
ONE_WAY = (((1, 0, 2), (1, 0, 0), (2, 2, 2)), (0, 1))
POSTS = (((1,), (2,)), ((0,), (0, 1)))
TEAM = ((((), (1,)), ((2,), (0,))), (((), (0,)),))
# Lines that want WORKS.
WANTING = ["wish " + thing_text(SELDOM), "posts %s %s" % (thing_text(POSTS), thing_text(TEAM)), "alike " + thing_text(RING), "keep", "exact", "kept", "sight", "sight 0",
           "do 0", "run", "open", "place", "verdict", "back", "paper keeping", "paper exact"]


def desk_of(works, wish=None, posts=None, team=None):
    desk = Desk()
    lines = ["works " + thing_text(works)]
    if wish is not None:
        lines.append("wish " + thing_text(wish))
    if posts is not None:
        lines.append("posts %s %s" % (thing_text(posts), thing_text(team)))
    for line in lines:
        assert desk.say(line) == "done", line
    return desk


def yes(is_so):
    return "yes" if is_so else "not"


class Begun(unittest.TestCase):
    def test_without_a_house(self):
        desk = Desk()
        self.assertIs(desk.house, None)
        for line in WANTING:
            self.assertEqual(desk.say(line), "no", line)
            self.assertIs(desk.house, None)
        with self.assertRaises(TypeError):
            Desk(None)
        with self.assertRaises(AttributeError):
            desk.house = House(RING)
        self.assertIsInstance(Desk.__dict__["house"], property)

    def test_works(self):
        desk = desk_of(RING)
        self.assertIsInstance(desk.house, House)
        self.assertTrue(desk.house == House(RING))
        self.assertEqual(desk.say("do 0"), "done")
        self.assertEqual(desk.say("works " + thing_text(TRAP)), "done")
        self.assertTrue(desk.house == House(TRAP))

    def test_wish(self):
        desk = desk_of(FORK, ONE_WAY, POSTS, TEAM)
        desk.say("do 0 2")
        self.assertEqual(desk.say("wish " + thing_text((((0, 0, 0),), (0,)))), "done")
        self.assertTrue(desk.house == House(FORK, wish=(((0, 0, 0),), (0,))))

    def test_posts(self):
        desk = desk_of(FORK, ONE_WAY)
        desk.say("do 0")
        self.assertEqual(desk.say("posts %s %s" % (thing_text(POSTS), thing_text(TEAM))), "done")
        self.assertTrue(desk.house == House(FORK, wish=ONE_WAY, posts=POSTS, team=TEAM))
        self.assertEqual(desk.say("do 1 2"), "done held")
        self.assertTrue(desk_of(FORK, None, POSTS, TEAM).house == House(FORK, posts=POSTS, team=TEAM))

    def test_works_without_the_wish_there_was(self):
        desk = desk_of(RING, SELDOM)
        desk.say("works " + thing_text(RING))
        self.assertIs(desk.house.wish, None)

    def test_what_is_refused_changes_nothing(self):
        desk = desk_of(FORK, ONE_WAY, POSTS, TEAM)
        desk.say("do 0 2")
        kept, before = desk.house, desk.house.copy()
        works, wish, posts, team = thing_text(FORK), thing_text(ONE_WAY), thing_text(POSTS), thing_text(TEAM)
        for line in ("works " + thing_text(MANY), "works .", "works", "works 0", "works ()", "works " + works + " ", "works  " + works, "works " + works + " " + works, " works " + works,
                     "Works " + works, "works" + works, "works " + works[:-1], "works\n" + works, "works " + works + "\n", "wish", "wish .", "wish 0", "wish " + thing_text(ALL2),
                     "wish " + wish + " " + wish, "wish (" + wish + ")", "posts", "posts " + posts, "posts . .", "posts %s ." % posts, "posts . %s" % team, "posts %s %s 0" % (posts, team),
                     "posts (%s %s)" % (posts, team), "posts %s  %s" % (posts, team), "posts %s %s" % (team, posts), "posts %s%s" % (posts, team), "posts 0) (0", "posts ) (", "posts () ()",
                     "alike .", "alike", "alike " + thing_text(RING), "alike " + thing_text(MANY), "keep 0", "keep ", " keep", "Keep", "exact 0", "kept kept", "kept.", "sight 1 0", "sight 0 0",
                     "sight 3", "sight -1", "sight 00", "sight 01", "sight +", "sight (0)", "sight  0", "sight 0 ", "do", "do ", "do 3", "do 0 3", "do 1 2 9", "do 00", "do 0  1", "do 0 -1",
                     "do +0", "do a", "do (0)", "do 0,1", "do 0\n", "do " + "1" * 40, "run 0", "run ", "open 0", "place 0", "verdict 0", "back 0", "back 1 ", "paper", "paper kept",
                     "paper keeping exact", "paper Keeping", "paper sight", "paper ", "judge", "judge ", "judge 0", "judge (keeping () ())", "judge (keeping (0 0) ()) 0", "judge  (keeping (0 0) ())",
                     "", " ", "\n", "x", "house", "say", "done", "no", ".", "()", "0", "do\t0", "runs", "\u00e9"):
            self.assertEqual(desk.say(line), "no", line)
            self.assertIs(desk.house, kept)
            self.assertTrue(desk.house == before, line)
        for line in junk() + [b"run", ["run"], ("run",), 0, Odd(), Equal(), None]:
            if type(line) is not str:
                self.assertEqual(desk.say(line), "no")
        self.assertTrue(desk.house is kept and kept == before)


class Answers(unittest.TestCase):
    def test_deeds(self):
        desk = desk_of(RING)
        self.assertEqual((desk.say("run"), desk.say("open"), desk.say("place")), ("none", "0", "(0)"))
        self.assertEqual(desk.say("do 0 0 1 0 1 0"), "done done done done cannot")
        self.assertEqual((desk.say("run"), desk.say("open"), desk.say("place")), ("0 0 1 0", "0", "(0)"))
        self.assertEqual(desk.say("do 0 0"), "done done")
        self.assertEqual(desk.say("open"), "0 1")
        self.assertEqual((desk.say("back"), desk.say("run")), ("done", "0 0 1 0 0"))
        still = desk_of(STILL)
        self.assertEqual((still.say("open"), still.say("do 0"), still.say("run"), still.say("back"), still.say("place")), ("none", "cannot", "none", "no", "(0)"))
        self.assertEqual(desk_of(CUBE).say("place"), "(0 0 0)")
        self.assertEqual(desk_of(CUBE).say("open"), "0 1 2")

    def test_deeds_that_are_none_behind_one_that_is_not_done(self):
        # The line is none, whatever comes ahead of that word.
        desk = desk_of(RING)
        self.assertEqual(desk.say("do 1 2"), "no")
        self.assertEqual(desk.say("do 1 1"), "cannot")
        self.assertEqual(desk.say("do 0 0 9"), "no")
        self.assertEqual(desk.say("run"), "none")

    def test_verdict(self):
        desk = desk_of(RING)
        self.assertEqual(desk.say("verdict"), "none")
        desk = desk_of(RING, SELDOM)
        self.assertEqual(desk.say("verdict"), "wished")
        desk.say("do 0 0 1 1 1")
        self.assertEqual(desk.say("verdict"), "4")
        desk.say("back")
        self.assertEqual(desk.say("verdict"), "4")
        desk.say("back")
        self.assertEqual(desk.say("verdict"), "wished")

    def test_a_wish_is_wanted(self):
        desk = desk_of(RING)
        for line in ("keep", "exact", "kept", "sight", "sight 0", "paper keeping", "paper exact"):
            self.assertEqual(desk.say(line), "no", line)
        desk.say("wish " + thing_text(ALL2))
        for line in ("keep", "exact", "kept", "sight", "sight 0"):
            self.assertEqual(desk.say(line), "yes", line)

    def test_not(self):
        desk = desk_of(RING, SELDOM)
        for line in ("keep", "exact", "kept", "sight", "sight 0 1"):
            self.assertEqual(desk.say(line), "not", line)
        self.assertEqual(desk.say("alike " + thing_text(RING)), "yes")
        self.assertEqual(desk.say("alike " + thing_text(RING[:3] + (((),),))), "not")
        desk = desk_of(FORK, ONE_WAY)
        self.assertEqual([desk.say(line) for line in ("sight 1", "sight 0", "sight 0 1 2")], [yes(can_keep_by(FORK, ONE_WAY, sight)) for sight in ((1,), (0,), (0, 1, 2))])

    def test_too_many(self):
        desk = desk_of(CUBE, (((0, 0, 0),), (0,)))
        self.assertEqual(desk.say("sight 0"), "no")
        self.assertEqual(desk.say("keep"), "yes")

    def test_papers(self):
        for works, wish in ((RING, ALL2), (RING, SELDOM), (FORK, ONE_WAY)):
            desk = desk_of(works, wish)
            for name, call in (("keeping", keeping_paper), ("exact", exact_paper)):
                paper = call(works, wish)
                text = desk.say("paper " + name)
                self.assertEqual(text, case_text((name, (works, wish), paper)))
                self.assertEqual(desk.say("judge " + text), paper[0])
                self.assertEqual(Desk().say("judge " + text), paper[0])

    def test_judge(self):
        good = ("keeping", (RING, ALL2), keeping_paper(RING, ALL2))
        for case in (good, good[:2] + (("kept", ()),), good[:2] + (None,), ("keeping", (0, 0), 0), ("keeping", (MANY, ALL2), 0), ("exact", (RING, ALL2), ("out", (), 0))):
            told = judged((case,))[0]
            due = told if type(told) is str else " ".join(told)
            self.assertEqual(Desk().say("judge " + case_text(case)), due)
        self.assertEqual(Desk().say("judge " + case_text(good)), "kept")
        self.assertEqual(Desk().say("judge " + case_text(good[:2] + (("kept", ()),))), "wrong kept")
        self.assertEqual(Desk().say("judge " + case_text(good[:2] + (None,))), "wrong form")
        self.assertEqual(Desk().say("judge " + case_text(("keeping", (0, 0), 0))), "refused")

    def test_the_house_can_be_led_otherwise(self):
        desk = desk_of(RING)
        desk.house.do(0)
        self.assertEqual(desk.say("run"), "0")
        with desk.house.trial():
            desk.say("do 0 1")
            self.assertEqual(desk.say("run"), "0 0 1")
        self.assertEqual(desk.say("run"), "0")

    def test_two_desks(self):
        one, two = desk_of(RING), desk_of(RING)
        one.say("do 0")
        self.assertEqual((one.say("run"), two.say("run")), ("0", "none"))

    def test_by_chance(self):
        chance = chance_of(410)
        answers = {}
        for _ in range(80):
            works = some_works(chance, chance.randint(1, 3), chance.randint(1, 2), most=3, part=0.9)
            wish = some_wish(chance, works[0], 3, 0.7)
            posts = some_posts(chance, works)
            team = some_team(chance, posts, 0.3)
            desk = desk_of(works, wish, posts, team)
            self.assertEqual((told_works(works), told_wish(works[0], wish)), (None, None))
            run = ()
            for _ in range(8):
                deeds = [chance.randrange(works[0]) for _ in range(chance.randint(1, 3))]
                due = []
                for deed in deeds:
                    if told_node(works, posts, team, run + (deed,)) is not None:
                        due.append("done")
                        run += (deed,)
                    else:
                        due.append("cannot" if told_place(works, run + (deed,)) is None else "held")
                        break
                answers.update({answer: 1 for answer in due})
                self.assertEqual(desk.say("do " + " ".join(map(str, deeds))), " ".join(due))
                self.assertEqual(desk.say("run"), " ".join(map(str, run)) or "none")
                self.assertEqual(desk.say("place"), thing_text(told_place(works, run)))
            self.assertEqual(desk.say("keep"), yes(can_keep(works, wish)))
            self.assertEqual(desk.say("kept"), yes(do_keep(works, wish)))
            self.assertEqual(desk.say("exact"), yes(is_exact(works, wish)))
            sight = tuple(sorted(set(deeds)))
            found = outcome(can_keep_by, works, wish, sight)
            self.assertEqual(desk.say("sight " + " ".join(map(str, sight))), yes(found[1]) if found[0] == "ok" else "no")
            other = some_works(chance, works[0], 1, part=0.9)
            self.assertEqual(desk.say("alike " + thing_text(other)), yes(are_alike(works, other)))
        self.assertEqual(set(answers), {"done", "cannot", "held"})

    def test_by_name(self):
        self.assertEqual(Desk().say(line="works " + thing_text(RING)), "done")


if __name__ == "__main__":
    unittest.main()
