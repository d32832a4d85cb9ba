"""[102] HOUSES, trials and copies: worksward/house.py."""

import inspect
import unittest

from common import (CUBE, MANY, RING, STILL, Equal, Odd, chance_of, junk, mutations, outcome, some_lot, some_posts, some_team, some_wish,
                    some_works, told_do, told_int, told_is_team, told_lot, told_look, told_node, told_place, told_posts, told_shows,
                    told_state, told_wish, told_wished, told_works)
from worksward import house as module
from worksward.house import House, under
from worksward.logs import does_show, need_log

ALL2 = (((0, 0),), (0,))
# Never 1 right behind 1.
SELDOM = (((0, 1), (0, 2), (2, 2)), (0, 1))
FORK = (3, (((0, 1, 2), (((0, 1), (1, 2)), ((2, 0),), ((2, 0),))),), (), ((0,),))
ONE_WAY = (((1, 0, 2), (1, 0, 0), (2, 2, 2)), (0, 1))
POSTS = (((1,), (2,)), ((0,), (0, 1)))
TEAM = ((((), (1,)), ((2,), (0,))), (((), (0,)),))


def told_minds(posts, team, run):
    """The numbers of the pairs of all minds behind a RUN that passes."""
    numbers = []
    for (sight, _), mind in zip(posts, team):
        at = 0
        for deed in told_look(sight, run):
            at = mind[at][1][sight.index(deed)]
        numbers.append(at)
    return tuple(numbers)


def told_verdict(wish, run):
    if wish is None:
        return None
    bad = [many for many in range(len(run) + 1) if not told_wished(wish, run[:many])]
    return bad[0] if bad else "wished"


def some_house(chance):
    works = some_works(chance, chance.randint(1, 3), chance.randint(1, 2), part=0.9)
    wish = some_wish(chance, works[0], 4, 0.7) if chance.random() < 0.7 else None
    if chance.random() < 0.4:
        return works, wish, None, None
    posts = some_posts(chance, works)
    return works, wish, posts, some_team(chance, posts, 0.3)


def made(args):
    works, wish, posts, team = args
    return House(works, wish=wish, posts=posts, team=team)


class Made(unittest.TestCase):
    def test_names_and_kinds(self):
        told = inspect.signature(House).parameters
        self.assertEqual(list(told), ["works", "wish", "posts", "team"])
        self.assertEqual(told["works"].kind, inspect.Parameter.POSITIONAL_OR_KEYWORD)
        for name in ("wish", "posts", "team"):
            self.assertEqual((told[name].kind, told[name].default), (inspect.Parameter.KEYWORD_ONLY, None))
        for name in ("works", "wish", "posts", "team", "run"):
            self.assertIsInstance(House.__dict__[name], property)
        for name in ("do", "place", "looks", "minds", "open_deeds", "verdict", "entry", "back", "copy", "trial", "__len__", "__contains__", "__eq__"):
            self.assertTrue(inspect.isfunction(House.__dict__[name]), name)
        many = inspect.signature(House.back).parameters["many"]
        self.assertEqual((many.kind, many.default), (inspect.Parameter.KEYWORD_ONLY, 1))
        self.assertEqual(list(inspect.signature(under).parameters), ["house", "deed"])
        self.assertEqual((House.__module__, under.__module__), ("worksward.house",) * 2)

    def test_works_alone(self):
        house = House(RING)
        self.assertIs(house.works, RING)
        self.assertEqual((house.wish, house.posts, house.team, house.run), (None, None, None, ()))
        self.assertEqual((house.place(), house.looks(), house.minds(), house.open_deeds(), house.verdict(), len(house)), ((0,), (), (), (0,), None, 0))

    def test_all(self):
        house = House(team=TEAM, posts=POSTS, wish=ONE_WAY, works=FORK)
        self.assertEqual((house.works, house.wish, house.posts, house.team, house.run), (FORK, ONE_WAY, POSTS, TEAM, ()))
        self.assertEqual((house.place(), house.looks(), house.minds(), house.open_deeds(), house.verdict()), ((0,), ((), ()), (0, 0), (0, 1), "wished"))
        with self.assertRaises(TypeError):
            House(FORK, ONE_WAY)
        with self.assertRaises(AttributeError):
            house.run = (0,)

    def test_errors(self):
        for works in junk() + mutations(RING)[:200]:
            due = told_works(works)
            if due is not None:
                self.assertEqual(outcome(House, works), due)
                self.assertEqual(outcome(House, works, wish=0, posts=0, team=0), due)
        self.assertEqual(outcome(House, MANY, wish=0), ("TooMany", 24))
        for wish in junk() + mutations(ONE_WAY):
            part = told_wish(3, wish)
            if part is not None and wish is not None:
                self.assertEqual(outcome(House, FORK, wish=wish), ("BadWish", part))
                self.assertEqual(outcome(House, FORK, team=0, posts=0, wish=wish), ("BadWish", part))
        for posts in junk() + mutations(POSTS):
            part = told_posts(FORK, posts)
            if part is not None and posts is not None:
                self.assertEqual(outcome(House, FORK, posts=posts, team=TEAM), ("BadPost", part), posts)
                self.assertEqual(outcome(House, FORK, wish=ONE_WAY, team=0, posts=posts), ("BadPost", part))
        for team in junk() + mutations(TEAM):
            if not told_is_team(POSTS, team):
                self.assertEqual(outcome(House, FORK, posts=POSTS, team=team), ("OutOfPlace",), team)
        # A team without posts, posts without a team.
        self.assertEqual(outcome(House, FORK, team=TEAM), ("OutOfPlace",))
        self.assertEqual(outcome(House, FORK, wish=ONE_WAY, team=0), ("OutOfPlace",))
        self.assertEqual(outcome(House, FORK, posts=POSTS), ("OutOfPlace",))
        self.assertEqual(outcome(House, FORK, posts=()), ("BadPost", "form"))


class Done(unittest.TestCase):
    def test_ordinary(self):
        house = House(RING, wish=SELDOM)
        self.assertEqual([house.do(deed) for deed in (0, 1, 0, 1, 0)], ["done", "cannot", "done", "done", "done"])
        self.assertEqual((house.run, house.place(), len(house), house.verdict()), ((0, 0, 1, 0), (0,), 4, "wished"))
        self.assertEqual([house.do(deed) for deed in (0, 0, 1, 1, 1)], ["done"] * 5)
        self.assertEqual(house.verdict(), 8)
        house.back(many=2)
        self.assertEqual((house.verdict(), len(house)), ("wished", 7))

    def test_held_and_cannot(self):
        house = House(FORK, posts=POSTS, team=TEAM)
        self.assertEqual(house.do(2), "cannot")
        self.assertEqual(house.do(1), "done")
        # The first post has seen a 1, and forbids 2.
        self.assertEqual((house.minds(), house.open_deeds(), house.looks()), ((1, 0), (), ((1,), ())))
        self.assertEqual([house.do(deed) for deed in (0, 1, 2)], ["cannot", "cannot", "held"])
        self.assertEqual(house.run, (1,))
        house.back()
        self.assertEqual([house.do(deed) for deed in (0, 2, 0, 2, 1, 2)], ["done"] * 5 + ["held"])
        self.assertEqual(house.looks(), ((1,), (0, 0)))

    def test_a_wish_holds_nothing_back(self):
        house = House(FORK, wish=ONE_WAY)
        self.assertEqual([house.do(deed) for deed in (0, 2, 1, 2)], ["done"] * 4)
        self.assertEqual(house.verdict(), 3 if not told_wished(ONE_WAY, (0, 2, 1)) else told_verdict(ONE_WAY, (0, 2, 1, 2)))

    def test_deeds_that_are_none(self):
        house = House(RING)
        house.do(0)
        for deed in junk() + [2, -1, True, False, 0.0, "0", None, (0,), 10 ** 30]:
            if not told_int(deed, 0, 1):
                self.assertEqual(outcome(house.do, deed), ("OutOfPlace",), deed)
        self.assertEqual(house.run, (0,))

    def test_by_chance(self):
        chance = chance_of(400)
        answers = {}
        for _ in range(150):
            args = some_house(chance)
            works, wish, posts, team = args
            house = made(args)
            run = ()
            for _ in range(25):
                deed = chance.randrange(works[0])
                place = told_place(works, run)
                if told_do(works, place, deed) is None:
                    due = "cannot"
                elif posts is not None and told_node(works, posts, team, run + (deed,)) is None:
                    due = "held"
                else:
                    due = "done"
                    run += (deed,)
                answers[due] = answers.get(due, 0) + 1
                self.assertEqual(house.do(deed), due)
                self.assertEqual(house.run, run)
                self.assertEqual(house.place(), told_place(works, run))
                self.assertEqual(len(house), len(run))
                self.assertEqual(house.verdict(), told_verdict(wish, run))
                self.assertEqual(house.looks(), tuple(told_look(sight, run) for sight, _ in posts or ()))
                self.assertEqual(house.minds(), told_minds(posts, team, run) if posts else ())
                can = tuple(deed for deed in range(works[0]) if told_do(works, told_place(works, run), deed) is not None
                            and (posts is None or told_node(works, posts, team, run + (deed,)) is not None))
                self.assertEqual(house.open_deeds(), can)
                self.assertEqual([number for number in range(works[0]) if number in house], sorted(set(run)))
                if run and chance.random() < 0.15:
                    many = chance.randint(1, len(run))
                    self.assertIs(house.back(many=many), None)
                    run = run[:-many]
                    self.assertEqual((house.run, house.place()), (run, told_place(works, run)))
        self.assertTrue(len(answers) == 3 and min(answers.values()) > 80, answers)

    def test_long_runs(self):
        house = House(RING, wish=SELDOM)
        for _ in range(3000):
            house.do(0)
        self.assertEqual((len(house), house.place(), house.verdict(), house.run), (3000, (0,), "wished", (0,) * 3000))
        house.back(many=2999)
        self.assertEqual(house.place(), (1,))


class Entries(unittest.TestCase):
    def test_ordinary(self):
        house = House(RING)
        for deed in (0, 0, 1, 1, 0, 0):
            house.do(deed)
        self.assertEqual(house.entry(()), ((), 0, (), "done"))
        self.assertEqual(house.entry((1,)), ((1,), 0, (1, 1), "done"))
        self.assertEqual(house.entry((0, 1)), ((0, 1), 0, (0, 0, 1, 1, 0, 0), "done"))
        for seen in ((), (0,), (1,), (0, 1)):
            entry = house.entry(seen)
            self.assertEqual(need_log(2, (entry,)), (entry,))
            self.assertIs(does_show(2, (entry,), 0, house.run), True)
            self.assertTrue(told_shows(entry, house.run))

    def test_8_deeds_and_9(self):
        house = House(RING)
        for deed in (0, 0) + (1,) * 8:
            house.do(deed)
        self.assertEqual(house.entry((1,)), ((1,), 0, (1,) * 8, "done"))
        self.assertEqual(outcome(house.entry, (0, 1)), ("Nothing",))
        house.do(1)
        self.assertEqual(outcome(house.entry, (1,)), ("Nothing",))
        self.assertEqual(house.entry((0,)), ((0,), 0, (0, 0), "done"))
        self.assertEqual(outcome(house.entry, (1, 0)), ("OutOfPlace",))

    def test_seen_that_is_none(self):
        house = House(RING)
        for seen in junk() + [(1, 0), (0, 0), (2,), [0], (True,)]:
            if not told_lot(seen, 2):
                self.assertEqual(outcome(house.entry, seen), ("OutOfPlace",), seen)


class Signs(unittest.TestCase):
    def test_contains(self):
        house = House(RING)
        self.assertIs(0 in house, False)
        for deed in (0, 0, 1):
            house.do(deed)
        self.assertIs(0 in house, True)
        self.assertIs(1 in house, True)
        for thing in junk() + [2, True, False, 0.0, 1.0, "0", (0,), None]:
            if type(thing) is not int:
                self.assertIs(thing in house, False, thing)
        self.assertIs(2 in house, False)

    def test_equal(self):
        one, two = House(RING, wish=SELDOM), House(RING, wish=SELDOM)
        self.assertIs(one == two, True)
        self.assertIs(one != two, False)
        one.do(0)
        self.assertIs(one == two, False)
        self.assertIs(one != two, True)
        two.do(0)
        self.assertIs(one == two, True)
        for other in (House(RING), House(RING, wish=ALL2), House(RING[:3] + (((),),), wish=SELDOM), House(STILL)):
            self.assertIs(one == other, False)
        full = House(FORK, wish=ONE_WAY, posts=POSTS, team=TEAM)
        for other in (House(FORK, wish=ONE_WAY), House(FORK, posts=POSTS, team=TEAM), House(FORK, wish=ONE_WAY, posts=POSTS, team=TEAM[:1] + ((((0,), (0,)),),)),
                      House(FORK, wish=ONE_WAY, posts=(POSTS[0], ((0,), (1,))), team=TEAM)):
            self.assertIs(full == other, False)
        self.assertIs(full == House(FORK, wish=ONE_WAY, posts=POSTS, team=TEAM), True)
        for other in (None, 0, RING, "house", Odd(), (one,), one.run):
            self.assertIs(one == other, False)

    def test_equal_by_the_way_that_was_gone(self):
        one, two = House(RING), House(RING)
        for deed in (0, 0, 1):
            one.do(deed)
            two.do(deed)
        two.do(1)
        two.back()
        self.assertIs(one == two, True)
        # The same place is not the same RUN.
        two.do(1)
        self.assertEqual(one.place(), two.place())
        self.assertIs(one == two, False)


class Back(unittest.TestCase):
    def test_all_and_one_more(self):
        house = House(RING)
        for deed in (0, 0, 1):
            house.do(deed)
        self.assertEqual(outcome(house.back, many=4), ("Nothing",))
        self.assertEqual(outcome(house.back, many=10 ** 999), ("Nothing",))
        self.assertEqual(house.run, (0, 0, 1))
        self.assertIs(house.back(), None)
        self.assertEqual((house.run, house.place()), ((0, 0), (2,)))
        house.back(many=2)
        self.assertEqual((house.run, house.place()), ((), (0,)))
        self.assertEqual(outcome(house.back), ("Nothing",))
        self.assertEqual(house.do(0), "done")

    def test_what_is_no_number(self):
        house = House(RING)
        house.do(0)
        for many in junk() + [0, -1, True, False, 1.0, "1", None, (1,), -10 ** 999]:
            if not told_int(many, 1, 10 ** 1000):
                self.assertEqual(outcome(house.back, many=many), ("OutOfPlace",), many)
        with self.assertRaises(TypeError):
            house.back(1)
        self.assertEqual(house.run, (0,))


class Copies(unittest.TestCase):
    def test_by_itself(self):
        chance = chance_of(401)
        for _ in range(40):
            args = some_house(chance)
            house = made(args)
            for _ in range(6):
                house.do(chance.randrange(args[0][0]))
            other = house.copy()
            self.assertIsInstance(other, House)
            self.assertTrue(other == house and other is not house)
            self.assertEqual((other.works, other.wish, other.posts, other.team), args)
            self.assertEqual((other.place(), other.minds(), other.verdict(), other.looks()), (house.place(), house.minds(), house.verdict(), house.looks()))
            kept = house.run
            for _ in range(4):
                other.do(chance.randrange(args[0][0]))
            if len(other):
                other.back()
            self.assertEqual(house.run, kept)
            again = house.copy()
            if kept:
                house.back(many=len(kept))
            self.assertEqual((again.run, house.run), (kept, ()))
            self.assertEqual(again.place(), told_place(args[0], kept))

    def test_copies_in_trials(self):
        house = House(RING)
        house.do(0)
        with house.trial():
            house.do(0)
            other = house.copy()
            house.do(1)
        self.assertEqual((house.run, other.run), ((0,), (0, 0)))
        with other.trial() as held:
            held.do(1)
            self.assertEqual(house.run, (0,))
        self.assertEqual(other.run, (0, 0))


class Trials(unittest.TestCase):
    def test_ordinary(self):
        house = House(RING, wish=SELDOM)
        house.do(0)
        with house.trial() as held:
            self.assertIs(held, house)
            self.assertEqual((house.run, house.place()), ((0,), (1,)))
            for deed in (0, 1, 1):
                held.do(deed)
            self.assertEqual((house.run, house.verdict()), ((0, 0, 1, 1), 4))
        self.assertEqual((house.run, house.place(), house.verdict(), house.open_deeds()), ((0,), (1,), "wished", (0,)))

    def test_back_beyond_the_beginning(self):
        house = House(RING)
        for deed in (0, 0, 1, 0):
            house.do(deed)
        with house.trial():
            house.back(many=3)
            house.do(0)
            house.do(0)
            self.assertEqual(house.run, (0, 0, 0))
        self.assertEqual((house.run, house.place()), ((0, 0, 1, 0), (0,)))

    def test_trials_within_trials(self):
        house = House(RING)
        with house.trial():
            house.do(0)
            with house.trial():
                house.do(0)
                with house.trial() as held:
                    held.back(many=2)
                    self.assertEqual(house.run, ())
                self.assertEqual(house.run, (0, 0))
                house.do(1)
            self.assertEqual(house.run, (0,))
            house.do(0)
            with house.trial():
                pass
            self.assertEqual(house.run, (0, 0))
        self.assertEqual(house.run, ())

    def test_errors_go_on(self):
        house = House(RING)
        house.do(0)
        for error in (ValueError, KeyError, ZeroDivisionError, StopIteration, KeyboardInterrupt):
            with self.assertRaises(error):
                with house.trial():
                    house.do(0)
                    raise error("x")
            self.assertEqual((house.run, house.place()), ((0,), (1,)))
        with self.assertRaises(ValueError):
            with house.trial():
                house.do(0)
                with house.trial():
                    house.do(1)
                    house.do(7)
        self.assertEqual(house.run, (0,))

    def test_ends_by_return_and_break(self):
        house = House(RING)

        def tried():
            with house.trial():
                house.do(0)
                return len(house)
        self.assertEqual(tried(), 1)
        for _ in range(3):
            with house.trial():
                house.do(0)
                break
        self.assertEqual(house.run, ())

    def test_as_it_was_when_the_block_began(self):
        house = House(RING)
        trial = house.trial()
        house.do(0)
        with trial:
            house.do(0)
        self.assertEqual(house.run, (0,))

    def test_two_houses(self):
        one, two = House(RING), House(RING)
        with one.trial(), two.trial() as held:
            one.do(0)
            held.do(0)
            self.assertIs(one == two, True)
        two.do(0)
        self.assertEqual((one.run, two.run), ((), (0,)))

    def test_by_chance(self):
        chance = chance_of(402)
        for _ in range(60):
            args = some_house(chance)
            house = made(args)

            def go(depth):
                for _ in range(chance.randint(0, 4)):
                    house.do(chance.randrange(args[0][0]))
                if len(house) and chance.random() < 0.5:
                    house.back(many=chance.randint(1, len(house)))
                kept = (house.run, house.place(), house.minds(), house.verdict(), house.open_deeds())
                if depth:
                    with house.trial():
                        go(depth - 1)
                    self.assertEqual((house.run, house.place(), house.minds(), house.verdict(), house.open_deeds()), kept)
            go(4)
            with house.trial():
                go(2)

    def test_under(self):
        house = House(RING)
        house.do(0)

        def tell(held):
            self.assertIs(held, house)
            return held.do(0), held.do(1), held.run
        self.assertEqual(under(house, tell), ("done", "done", (0, 0, 1)))
        self.assertEqual(house.run, (0,))
        self.assertEqual(under(deed=len, house=house), 1)
        self.assertIs(under(house, lambda held: held), house)
        self.assertEqual(under(house, House.open_deeds), (0,))
        with self.assertRaises(ZeroDivisionError):
            under(house, lambda held: held.do(0) and 1 // 0)
        self.assertEqual(house.run, (0,))
        self.assertEqual(under(house, lambda held: held.do(0) and under(held, lambda other: other.do(1) and other.run)), (0, 0, 1))
        self.assertEqual(house.run, (0,))

    def test_under_of_what_is_no_house(self):
        for thing in (None, RING, 0, Odd(), Equal(), House):
            self.assertEqual(outcome(under, thing, len), ("OutOfPlace",))
        for thing in (None, 0, True, "do", (), [], {}, b""):
            self.assertEqual(outcome(under, House(RING), thing), ("OutOfPlace",))
        self.assertTrue(inspect.isclass(module.House))


class Apart(unittest.TestCase):
    def test_results_stay(self):
        house = House(CUBE)
        run = house.run
        house.do(0)
        self.assertEqual((run, house.run), ((), (0,)))
        self.assertEqual(type(house.run), tuple)
        self.assertEqual(type(house.open_deeds()), tuple)
        self.assertEqual(house.open_deeds(), (0, 1, 2))

    def test_states_of_wishes_that_are_good_again(self):
        # What is not wished once never is again.
        wish = (((1, 1), (0, 0)), (0,))
        house = House(RING, wish=wish)
        for many in range(1, 5):
            house.do(0)
            self.assertEqual(house.verdict(), 1)
        self.assertIn(told_state(wish, house.run), (0, 1))
        self.assertEqual(some_lot(chance_of(1), 0), ())


if __name__ == "__main__":
    unittest.main()
