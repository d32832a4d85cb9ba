"""[23], [24] SAYINGS, when they hold, the WISH made of one: worksward/sayings.py."""

import unittest

from common import (chance_of, mutations, outcome, some_saying, told_holds, told_rows, told_saying, told_wish, told_wished)
from worksward.errors import BadWish, OutOfPlace, TooMany
from worksward.sayings import does_hold, need_saying, wish_of
from worksward.wishes import least_wish

HAS = ("has", (0,))


def ands(*sayings):
    """Some SAYINGS, all within one another to the right."""
    return sayings[0] if len(sayings) == 1 else ("and", sayings[0], ands(*sayings[1:]))


def nots(many, saying):
    return saying if many == 0 else ("not", nots(many - 1, saying))


class NeedSaying(unittest.TestCase):
    def refuse(self, path, deeds, thing):
        with self.assertRaises(BadWish) as caught:
            need_saying(deeds, thing)
        self.assertEqual(caught.exception.part, path, thing)
        self.assertEqual(told_saying(deeds, thing), path, thing)

    def take(self, deeds, thing):
        self.assertIs(need_saying(deeds, thing), thing)
        self.assertIsNone(told_saying(deeds, thing))

    def test_all_words(self):
        for saying in (("begins", (0,)), ("begins", (1, 0, 1)), ("ends", (1, 1)), HAS, ("most", (), 0), ("most", (0, 1), 3),
                       ("till", (), (), ()), ("till", (0,), (1,), (0, 1)), ("not", HAS), ("and", HAS, HAS), ("or", HAS, HAS)):
            self.take(2, saying)

    def test_words_and_sizes(self):
        for thing in (None, (), [], "has", 0, True, ["has", (0,)], ("has",), ("has", (0,), (0,)), ("had", (0,)), (None, (0,)),
                      (True, (0,)), (("has",), (0,)), ([], (0,)), (b"has", (0,)), ("most", (0,)), ("most", (0,), 1, 1),
                      ("till", (0,), (1,)), ("till", (0,), (1,), (0,), (1,)), ("not",), ("not", HAS, HAS), ("and", HAS),
                      ("and", HAS, HAS, HAS), ("or", HAS), ("or",), ("begins",), ("ends", (0,), 1), ("Has", (0,)), {}, ("",)):
            self.refuse((), 2, thing)

    def test_rows_of_sayings(self):
        for word in ("begins", "ends", "has"):
            for row in ((), (0, 0, 0, 0), (2,), (-1,), [0], None, 0, (True,), (0.0,), ("0",), "0", ((0,),), (0, None)):
                self.refuse((), 2, (word, row))
            for row in ((0,), (1, 0), (1, 1, 1)):
                self.take(2, (word, row))

    def test_lots_and_numbers(self):
        bad_lots = ((1, 0), (0, 0), (2,), (-1,), [0], None, 0, (True,), (0.0,), ("0",), "0", ((),))
        for lot in bad_lots:
            self.refuse((), 2, ("most", lot, 1))
            self.refuse((), 2, ("till", lot, (), ()))
            self.refuse((), 2, ("till", (), lot, ()))
            self.refuse((), 2, ("till", (), (), lot))
        for number in (-1, 4, True, False, 1.0, "1", None, (), (1,), [], 10 ** 999):
            self.refuse((), 2, ("most", (0,), number))
        for number in range(4):
            self.take(2, ("most", (0,), number))

    def test_paths(self):
        self.refuse((1,), 2, ("not", None))
        self.refuse((1,), 2, ("and", None, None))
        self.refuse((2,), 2, ("and", HAS, None))
        self.refuse((2,), 2, ("or", HAS, ("has", (2,))))
        self.refuse((1, 2), 2, ("or", ("and", HAS, ("most", (1, 0), 1)), None))
        self.refuse((2, 1, 1), 2, ("or", HAS, ("not", ("not", ("has", ())))))
        self.refuse((1, 1, 1, 1), 2, nots(4, ("has", (True,))))
        # Each thing ahead of those in it: of one that has not as many things as its word wants its own path is told.
        self.refuse((1,), 2, ("not", ("and", None)))
        self.refuse((1,), 2, ("and", ("not",), None))
        # The left one with all in it, ahead of the right one.
        self.refuse((1, 1), 2, ("and", ("not", None), None))
        self.refuse((1, 2), 2, ("and", ("and", HAS, None), None))

    def test_nine_words_and_ten(self):
        nine = ("and", ("or", HAS, ("not", HAS)), ("or", ("not", HAS), HAS))
        self.take(2, nine)
        self.take(2, ("and", ("not", ("or", HAS, HAS)), ("or", ("not", HAS), HAS)))
        self.refuse((), 2, ("and", ("not", ("or", HAS, HAS)), ("or", ("not", HAS), ("not", HAS))))
        # The tenth one, whatever it is.
        for tenth in (None, [], ("had",), True):
            self.refuse((), 2, ("and", ("not", ("or", HAS, HAS)), ("or", ("not", HAS), ("not", tenth))))
        # What comes ahead of the tenth one is told ahead of it.
        self.refuse((2, 1, 1), 2, ("and", ("not", ("or", HAS, HAS)), ("or", ("not", None), ("not", None))))

    def test_four_plain_ones_and_five(self):
        self.take(2, ("and", ("and", HAS, HAS), ("and", HAS, HAS)))
        self.take(2, ands(HAS, HAS, HAS, HAS))
        self.refuse((), 2, ands(HAS, HAS, HAS, HAS, HAS))
        self.refuse((), 2, ("and", ("and", HAS, HAS), ("and", HAS, ("and", HAS, HAS))))
        # A fifth one that is not as told is refused by its path; what stands behind a fifth one is not looked at.
        self.refuse((2, 2, 2), 2, ("and", ("and", HAS, HAS), ("and", HAS, ("and", HAS, ("has", ())))))
        self.refuse((), 2, ("or", ("or", ("or", HAS, HAS), ("or", HAS, HAS)), HAS))
        self.refuse((), 2, ("or", ("or", ("or", HAS, HAS), ("or", HAS, HAS)), ("most", (), 0)))
        five = ("or", ("or", ("or", HAS, HAS), ("or", HAS, HAS)), ("or", HAS, None))
        self.refuse((), 2, five)

    def test_within_four_others_and_five(self):
        self.take(2, nots(4, HAS))
        self.refuse((), 2, nots(5, HAS))
        for inner in (None, True, [], ("had",), 5):
            self.refuse((), 2, nots(5, inner))
            self.refuse((1, 1, 1, 1), 2, nots(4, inner))
        self.take(2, ("and", nots(3, HAS), nots(3, HAS)))
        self.refuse((), 2, ("or", nots(4, HAS), None))

    def test_sayings_that_are_otherwise(self):
        chance = chance_of(40)
        for _ in range(120):
            deeds = chance.randint(1, 3)
            saying = some_saying(chance, deeds, chance.randint(0, 5))
            for thing in [saying] + mutations(saying, chance, 60):
                path = told_saying(deeds, thing)
                due = ("ok", thing) if path is None else ("BadWish", path)
                self.assertEqual(outcome(need_saying, deeds, thing), due, thing)

    def test_deeds(self):
        for deeds in (0, 7, True, None, 2.0, "2", ()):
            with self.assertRaises(OutOfPlace):
                need_saying(deeds, HAS)
            with self.assertRaises(OutOfPlace):
                does_hold(deeds, None, None)
            with self.assertRaises(OutOfPlace):
                wish_of(deeds, None)
        self.take(6, ("has", (5,)))
        self.refuse((), 5, ("has", (5,)))


class Holds(unittest.TestCase):
    def told(self, saying, yes, no):
        for rows, due in ((yes, True), (no, False)):
            for row in rows:
                self.assertIs(does_hold(3, saying, row), due, (saying, row))
                self.assertIs(told_holds(saying, row), due, (saying, row))

    def test_begins(self):
        self.told(("begins", (0, 1)), [(), (0,), (0, 1), (0, 1, 2, 0)], [(1,), (0, 0), (1, 0, 1), (0, 2)])

    def test_ends(self):
        self.told(("ends", (0, 1)), [(0, 1), (2, 0, 1), (0, 0, 1), (0, 1, 0, 1)], [(), (0,), (1,), (0, 1, 0), (1, 1)])
        self.told(("ends", (0, 0, 1)), [(0, 0, 0, 1)], [(0, 1), (0, 0, 1, 0)])
        self.told(("ends", (0, 1, 0)), [(0, 1, 0), (0, 1, 0, 1, 0)], [(1, 0), (0, 1, 0, 1), (0, 1, 1, 0)])

    def test_has(self):
        self.told(("has", (0, 1)), [(0, 1), (2, 0, 1, 2), (0, 0, 1)], [(), (0,), (1, 0), (0, 2, 1)])
        self.told(("has", (0, 1, 0)), [(0, 1, 0, 2), (0, 0, 1, 0)], [(0, 1, 1, 0), (1, 0)])

    def test_most(self):
        self.told(("most", (0, 1), 2), [(), (0, 1), (0, 1, 2, 1, 0), (2, 2, 2, 2)], [(0, 1, 0), (2, 0, 0, 0, 2), (1, 1, 1, 2)])
        self.told(("most", (0,), 0), [(), (1, 2)], [(0,), (1, 0, 1)])
        self.told(("most", (), 0), [(), (0, 0, 0)], [])
        self.told(("most", (0,), 3), [(0, 0, 0), (0, 0, 0, 1, 0, 0, 0)], [(0, 0, 0, 0)])

    def test_till(self):
        self.told(("till", (0,), (1,), (2,)), [(), (1, 1), (0,), (0, 2, 1), (0, 0, 2, 1), (1, 0)],
                  [(0, 1), (0, 0, 1), (0, 2, 0, 1), (0, 1, 2)])
        # A deed of the third lot that is of the second one, too, may come.
        self.told(("till", (0,), (1,), (1,)), [(0, 1), (0, 1, 1), (0, 0, 1, 1)], [])
        # If it is of the first one, too, it is with it as with any deed of that.
        self.told(("till", (0, 2), (1,), (2,)), [(2,), (0, 2)], [(0, 2, 1), (2, 1), (0, 2, 2, 1)])
        self.told(("till", (0,), (0,), (2,)), [(0,), (0, 2, 0)], [(0, 0), (0, 1, 0)])
        self.told(("till", (0,), (0,), (0,)), [(0, 0, 0)], [])
        self.told(("till", (0,), (1,), ()), [(1, 0, 2)], [(0, 2, 2, 1)])

    def test_not_and_or(self):
        self.told(("not", HAS), [(), (1,)], [(0,), (1, 0)])
        self.told(("and", HAS, ("has", (1,))), [(0, 1), (1, 0)], [(), (0,), (1,)])
        self.told(("or", HAS, ("has", (1,))), [(0, 1), (1,), (0,)], [(), (2,)])
        self.told(("not", ("not", HAS)), [(0,)], [()])

    def test_rows_that_came_to_hold_again(self):
        # Whether it holds of beginnings does not matter.
        self.told(("ends", (1,)), [(0, 1), (1, 0, 1)], [(1, 0)])

    def test_by_chance(self):
        chance = chance_of(41)
        for _ in range(300):
            deeds = chance.randint(1, 3)
            saying = some_saying(chance, deeds)
            for row in told_rows(deeds, {1: 6, 2: 6, 3: 4}[deeds]):
                self.assertIs(does_hold(deeds, saying, row), told_holds(saying, row), (saying, row))

    def test_long_rows(self):
        self.assertIs(does_hold(2, ("most", (1,), 3), (0, 1) * 200), True)
        self.assertIs(does_hold(2, ("ends", (0, 1)), (0, 1) * 200), True)
        with self.assertRaises(OutOfPlace):
            does_hold(2, HAS, (0,) * 401)
        for row in (None, [0], (2,), (True,), (0.0,), "0", 0, ((0,),)):
            with self.assertRaises(OutOfPlace):
                does_hold(2, HAS, row)

    def test_order_of_errors(self):
        self.assertEqual(outcome(does_hold, 0, None, None), ("OutOfPlace",))
        self.assertEqual(outcome(does_hold, 2, ("not", None), None), ("BadWish", (1,)))
        self.assertEqual(outcome(does_hold, 2, HAS, None), ("OutOfPlace",))


class WishOf(unittest.TestCase):
    def test_wishes_of_sayings(self):
        self.assertEqual(wish_of(2, ("begins", (1,))), (((1, 2), (1, 1), (2, 2)), (0, 2)))
        self.assertEqual(wish_of(2, ("begins", (0, 1))), (((1, 2), (2, 3), (2, 2), (3, 3)), (0, 1, 3)))
        self.assertEqual(wish_of(2, ("not", HAS)), (((1, 0), (1, 1)), (0,)))
        self.assertEqual(wish_of(2, ("most", (1,), 1)), (((0, 1), (0, 2), (2, 2)), (0, 1)))
        self.assertEqual(wish_of(2, ("most", (), 0)), (((0, 0),), (0,)))
        self.assertEqual(wish_of(2, ("till", (0,), (1,), ())), (((1, 0), (1, 2), (2, 2)), (0, 1)))
        self.assertEqual(wish_of(1, ("most", (0,), 3)), (((1,), (2,), (3,), (4,), (4,)), (0, 1, 2, 3)))

    def test_none_if_it_does_not_hold_at_first(self):
        for saying in (HAS, ("ends", (0,)), ("not", ("begins", (0,))), ("and", ("most", (0,), 0), HAS), ("not", ("most", (), 0))):
            self.assertIsNone(wish_of(2, saying))

    def test_all_beginnings_are_to_hold(self):
        # Of (0,) it does not hold, of (0, 1) it does; the latter is not wished.
        saying = ("not", ("ends", (0,)))
        self.assertEqual(wish_of(2, saying), (((1, 0), (1, 1)), (0,)))

    def test_at_most_6_states(self):
        five = ("and", ("most", (0,), 1), ("most", (1,), 1))
        self.assertEqual(len(wish_of(2, five)[0]), 4)
        six = ("and", ("most", (0,), 2), ("most", (1,), 2))
        self.assertEqual(len(wish_of(2, six)[0]), 6)
        with self.assertRaises(TooMany) as caught:
            wish_of(2, ("and", ("most", (0,), 3), ("most", (1,), 2)))
        self.assertEqual(caught.exception.most, 6)
        self.assertEqual(outcome(wish_of, 2, ("and", ("most", (0,), 3), ("most", (1,), 3))), ("TooMany", 6))
        # What does not hold of () is none, of however many states.
        self.assertIsNone(wish_of(2, ("and", HAS, ("and", ("most", (0,), 3), ("most", (1,), 3)))))

    def test_by_chance(self):
        chance = chance_of(42)
        seen = {"ok": 0, "TooMany": 0, None: 0}
        for _ in range(500):
            deeds = chance.randint(1, 3)
            saying = some_saying(chance, deeds, 2)
            told = outcome(wish_of, deeds, saying)
            if not told_holds(saying, ()):
                self.assertEqual(told, ("ok", None))
                seen[None] += 1
                continue
            seen[told[0]] += 1
            rows = list(told_rows(deeds, {1: 9, 2: 6, 3: 4}[deeds]))
            wished = {}
            for row in rows:
                wished[row] = (row == () or wished[row[:-1]]) and told_holds(saying, row)
            if told[0] == "ok":
                self.assertIsNone(told_wish(deeds, told[1]))
                self.assertEqual(least_wish(deeds, told[1]), told[1])
                for row in rows:
                    self.assertEqual(told_wished(told[1], row), wished[row], (saying, row))
            else:
                self.assertEqual(told, ("TooMany", 6))
        self.assertTrue(seen["ok"] > 100 and seen[None] > 50 and seen["TooMany"] > 2, seen)

    def test_too_many_states_are_more_than_6_kinds_of_rows(self):
        chance = chance_of(43)
        many = 0
        for _ in range(700):
            saying = some_saying(chance, 2, 2)
            if not told_holds(saying, ()):
                continue
            kinds = self.kinds(saying)
            told = outcome(wish_of, 2, saying)
            if kinds > 6:
                many += 1
                self.assertEqual(told, ("TooMany", 6))
            elif told[0] == "ok":
                self.assertGreaterEqual(len(told[1][0]), kinds)
        self.assertGreater(many, 0)

    def kinds(self, saying):
        """How many kinds of short rows there are by what is wished behind them; at most as many as there are states."""
        def wished(row):
            return all(told_holds(saying, row[:k]) for k in range(len(row) + 1))
        tails = list(told_rows(2, 3))
        return len({tuple(wished(row + tail) for tail in tails) for row in told_rows(2, 4)})

    def test_the_largest_ones(self):
        saying = ("and", ("and", ("has", (0, 1, 0)), ("most", (0,), 3)), ("and", ("begins", (0, 1, 2)), ("ends", (0, 2, 1))))
        self.assertIsNone(wish_of(6, saying))
        large = ("and", ("or", ("has", (0, 1, 0)), ("most", (0, 1), 3)), ("or", ("begins", (0, 1, 2)), ("most", (1, 2), 3)))
        self.assertEqual(outcome(wish_of, 6, large), ("TooMany", 6))
        few = ("and", ("or", ("has", (0, 1, 0)), ("begins", (0, 1))), ("or", ("most", (), 3), ("ends", (5, 5, 5))))
        self.assertEqual(wish_of(6, few), (((1,) + (2,) * 5, (2, 3) + (2,) * 4, (2,) * 6, (3,) * 6), (0, 1, 3)))


if __name__ == "__main__":
    unittest.main()
