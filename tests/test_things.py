"""[100] THINGS and their texts: worksward/things.py."""

import unittest

from common import Equal, Odd, chance_of, outcome, same_kind
from worksward.things import is_thing, read_thing, thing_text

MOST = 10 ** 31 - 1
LETTERS = "abcdefghijklmnopqrstuvwxyz"


def nested(depth, inner=()):
    """A thing within so many tuples."""
    for _ in range(depth):
        inner = (inner,)
    return inner


def told_count(thing):
    return 1 + sum(told_count(part) for part in thing) if type(thing) is tuple else 1


def told_depth(thing):
    return 1 + max([told_depth(part) for part in thing], default=0) if type(thing) is tuple else 0


def told_text(thing):
    """The text of a THING, sign by sign."""
    if type(thing) is tuple:
        text = "("
        for number, part in enumerate(thing):
            text += (" " if number else "") + told_text(part)
        return text + ")"
    for one, sign in ((None, "."), (True, "+"), (False, "-")):
        if thing is one:
            return sign
    return thing if type(thing) is str else "%d" % thing


def some_thing(chance, depth=4):
    kind = chance.randrange(8)
    if kind < 3 and depth:
        return tuple(some_thing(chance, depth - 1) for _ in range(chance.randint(0, 4)))
    if kind < 4:
        return chance.choice([None, True, False])
    if kind < 6:
        return chance.choice([0, 1, -1, 9, 10, -10, chance.randrange(-99, 100), chance.randrange(-MOST, MOST), MOST, -MOST])
    return "".join(chance.choice(LETTERS) for _ in range(chance.choice([1, 2, 5, 11, 12])))


GOOD = [0, 1, -1, 10, -10, MOST, -MOST, None, True, False, "a", "z", "word", "abcdefghijkl", (), ((),), (0,), ((), ()), (None, True, False),
        ("wrong", (1, (2, -3)), "part"), nested(20), nested(20, 0), nested(20, -10), nested(20, "abcdefghijkl"), nested(19, (1, 2)), nested(19, (10, "ab")), (0,) * 3999,
        (10,) * 3999, ("abc",) * 3999, ((),) * 3999]
BAD = [10 ** 31, -10 ** 31, 10 ** 999, "", "A", "aB", "a b", "abcdefghijklm", "a1", "1", "a\n", " a", "+", ".", "(a)", "\u00e9", "\u00df", 1.0, 0.0, b"a", b"",
       [], [0], {}, {0}, set(), frozenset(), Odd(), Odd, Equal(), len, range(2), ([],), (0, [1]), (1.0,), (Odd(),), ("A",), ((), ((), "")), (10 ** 31,),
       nested(21), nested(21, 0), nested(20, (0,)), (0, nested(20, 1)), nested(50, 0), (0,) * 4000, ((),) * 4000, ((0,) * 3998,) + (0,), 1j, slice(1)]


class Things(unittest.TestCase):
    def test_what_is_one(self):
        for thing in GOOD:
            self.assertIs(is_thing(thing), True, thing)
        for thing in BAD:
            self.assertIs(is_thing(thing), False, thing)

    def test_figures(self):
        for many in range(1, 40):
            for number in (10 ** many - 1, 10 ** (many - 1), -10 ** many + 1):
                self.assertIs(is_thing(number), many <= 31, number)

    def test_letters(self):
        for many in range(0, 15):
            self.assertIs(is_thing("q" * many), 1 <= many <= 12)
        for code in range(256):
            self.assertIs(is_thing(chr(code)), chr(code) in LETTERS, code)
            self.assertIs(is_thing("a" + chr(code)), chr(code) in LETTERS, code)

    def test_4000_and_one_more(self):
        for thing in ((0,) * 3999, ((0,) * 1999,) * 1 + (0,) * 1999, ((),) * 3999, tuple((0,) * 3 for _ in range(999)) + (0, 0, 0)):
            self.assertEqual(told_count(thing), 4000)
            self.assertIs(is_thing(thing), True)
            self.assertIs(is_thing(thing + (None,)), False)
            self.assertEqual(outcome(thing_text, thing + (None,)), ("OutOfPlace",))
            text = thing_text(thing)
            self.assertEqual(read_thing(text), thing)
            self.assertEqual(outcome(read_thing, text[:-1] + " .)"), ("BadText", 1))
            self.assertEqual(outcome(read_thing, text[:-1] + " ())"), ("BadText", 1))

    def test_the_same_part_many_times_counts_each_time(self):
        thing = ()
        for _ in range(18):
            thing = (thing, thing)
        self.assertIs(is_thing(thing), False)
        self.assertEqual(outcome(thing_text, thing), ("OutOfPlace",))

    def test_depth(self):
        for depth in range(30):
            for inner in ((), 0, "a", None):
                self.assertIs(is_thing(nested(depth, inner)), depth <= 20)
            self.assertIs(is_thing((0, nested(depth, 1), "a")), depth + 1 <= 20)


class Texts(unittest.TestCase):
    def test_ordinary(self):
        for thing, text in ((0, "0"), (-7, "-7"), (None, "."), (True, "+"), (False, "-"), ("word", "word"), ((), "()"), ((1,), "(1)"),
                            ((1, (2, ()), "a", None, (True, False)), "(1 (2 ()) a . (+ -))"), (((),), "(())"), (((), ()), "(() ())"), (-MOST, "-" + "9" * 31)):
            self.assertEqual(thing_text(thing), text)
            self.assertTrue(same_kind(read_thing(text), thing))

    def test_there_and_back(self):
        for thing in GOOD:
            text = thing_text(thing)
            self.assertEqual(text, told_text(thing))
            self.assertTrue(same_kind(read_thing(text), thing), thing)
        chance = chance_of(380)
        for _ in range(1500):
            thing = some_thing(chance)
            text = thing_text(thing)
            self.assertEqual(text, told_text(thing))
            self.assertTrue(same_kind(read_thing(text), thing))

    def test_what_is_no_thing(self):
        for thing in BAD:
            self.assertEqual(outcome(thing_text, thing), ("OutOfPlace",), thing)

    def test_what_is_no_string(self):
        for string in (None, True, 0, 1.0, b"0", [], ["0"], ("0",), {}, Odd(), Equal(), len):
            self.assertEqual(outcome(read_thing, string), ("BadText", 0), string)

    def test_what_writes_none(self):
        for string in ("", " ", "  ", "\n", "0 ", " 0", "0\n", "\n0", "00", "01", "-0", "-00", "-01", "+0", "+1", "--1", "-", "0x1", "1.0", "1_0", "1e3", "..", "++", "-+",
                       "A", "a ", "aB", "a1", "1a", "-a", "abcdefghijklm", "(", ")", ")(", "(()", "())", "( )", "(0 )", "( 0)", "(0  1)", "(0\n1)", "(0,1)", "0 1", "() ()", "()()",
                       "(0)(1)", "(0(1))", "((0)1)", "(0 (1)2)", "(0)1", "1(0)", "a(0)", "(0) ", " (0)", "[0]", "(0 1))", "((0 1)", "None", "True", "'a'", "\u0661", "\u00b2", "a\u0301",
                       "1" * 32, "-" + "1" * 32, "(" * 22 + ")" * 22, "(" * 21 + "0" + ")" * 21, "(" * 21, ")" * 21, "(" * 9000, "( (", "(. .", "(.).", "()a", "a()", "\t0", "0\t1"):
            if string != "-":
                self.assertEqual(outcome(read_thing, string), ("BadText", 1), string)

    def test_edges_that_are_read(self):
        for string in ("(" * 21 + ")" * 21, "(" * 20 + "0" + ")" * 20, "1" * 31, "-" + "1" * 31, "abcdefghijkl", "(- -1)", "(+ . -)", "(() (() ()) ())", "(none true false)"):
            self.assertEqual(thing_text(read_thing(string)), string)

    def test_texts_that_are_otherwise(self):
        # A text that is read is the text of what is read.
        chance = chance_of(381)
        read = {True: 0, False: 0}
        for _ in range(3000):
            text = thing_text(some_thing(chance, 3))
            at = chance.randrange(len(text) + 1)
            other = text[:at] + chance.choice(["", " ", "(", ")", "0", "-", "a", ".", "()", " 0"]) + text[at + chance.choice([0, 0, 1]):]
            found = outcome(read_thing, other)
            read[found[0] == "ok"] += 1
            if found[0] == "ok":
                self.assertEqual(told_text(found[1]), other)
            else:
                self.assertEqual(found, ("BadText", 1))
        self.assertGreater(min(read.values()), 500)

    def test_depth_by_chance(self):
        chance = chance_of(382)
        for _ in range(200):
            thing = nested(chance.randint(15, 24), some_thing(chance, 2))
            self.assertEqual(outcome(read_thing, told_text(thing)), ("ok", thing) if is_thing(thing) else ("BadText", 1))
            self.assertTrue(is_thing(thing) or told_depth(thing) > 20)

    def test_by_name(self):
        self.assertIs(is_thing(value=0), True)
        self.assertEqual(thing_text(thing=(0,)), "(0)")
        self.assertEqual(read_thing(string="(0)"), (0,))


if __name__ == "__main__":
    unittest.main()
