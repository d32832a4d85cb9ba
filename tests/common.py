"""What the tests share: samples, chance with a fixed seed, and the words of the document told again, slowly.

The functions that begin with "told_" do not use the package. They say what the document says by other ways
than the package does: by going through all short rows, or by taking away what cannot be until nothing changes.
"""

import itertools
import random

# ---------------------------------------------------------------- samples

# One machine, two deeds: 0 leads on in a ring of three, 1 can be done at the end alone and stays.
RING = (2, (((0, 1), (((0, 1),), ((0, 2),), ((0, 0), (1, 2)))),), (1,), ((2,),))
# Two machines that share deed 1; deed 3 is had by none.
SHARED = (4, (((0, 1), (((0, 1),), ((1, 0),))), ((1, 2), (((1, 1),), ((2, 0),)))), (2,), ((0,), (0, 1)))
# Three machines of their own, one deed each, 2 * 3 * 4 places, all of which come.
CUBE = (3, (((0,), (((0, 1),), ((0, 0),))),
            ((1,), (((1, 1),), ((1, 2),), ((1, 0),))),
            ((2,), (((2, 1),), ((2, 2),), ((2, 3),), ((2, 0),)))), (), ((0,), (0,), (0,)))
# One deed, one state, nothing can be done.
STILL = (1, (((), ((),)),), (), ((),))
# Six deeds, of which the machine has none but 5.
SIX = (6, (((5,), (((5, 0),),)),), (0, 1, 2, 3, 4, 5), ((0,),))
# A trap: 0 leads to the goal, 1 (free) leads from the middle to a place that is lost.
TRAP = (3, (((0, 1, 2), (((0, 1), (2, 2)), ((0, 2), (1, 3)), ((2, 0),), ())),), (1,), ((2,),))
# Two machines of their own, and one that has nothing; no place is a goal.
WIDE = (2, (((0,), (((0, 1),), ((0, 2),), ((0, 3),), ((0, 0),))),
            ((1,), (((1, 1),), ((1, 2),), ((1, 3),), ((1, 0),))),
            ((), ((),))), (), ((), (), ()))
# Just one place too many: 4 * 4 ahead of deed 2, and 3 * 3 behind it.
MANY = (3, (((0, 2), (((0, 1),), ((0, 2), (2, 1)), ((0, 3),), ())),
            ((1, 2), (((1, 1),), ((1, 2), (2, 1)), ((1, 3),), ())),
            ((2,), (((2, 1),), ()))), (), ((0,), (0,), (0,)))
# Three machines that share nothing, 3 * 3 * 3 places come.
WIDE27 = (3, (((0,), (((0, 1),), ((0, 2),), ((0, 0),))),
              ((1,), (((1, 1),), ((1, 2),), ((1, 0),))),
              ((2,), (((2, 1),), ((2, 2),), ((2, 0),)))), (), ((), (), ()))
# Three machines of four states that share nothing: just 4 * 2 * 3 of their 64 places come; or 4 * 2 * 4.
JUST24 = (3, (((0,), (((0, 1),), ((0, 2),), ((0, 3),), ((0, 0),))),
              ((1,), (((1, 3),), ((1, 0),), ((1, 1),), ((1, 0),))),
              ((2,), (((2, 2),), (), ((2, 3),), ((2, 0),)))), (), ((0,), (0, 1), (1, 3)))
MORE32 = JUST24[:1] + (JUST24[1][:2] + (((2,), (((2, 2),), (), ((2, 3),), ((2, 1),))),),) + JUST24[2:]
# Three machines of four states that share deeds, just 24 places come; two that share one, and one that shares none.
BOUND24 = (3, (((1, 2), (((1, 2), (2, 0)), ((1, 2),), ((2, 1),), ((1, 0), (2, 2)))),
               ((0,), (((0, 1),), ((0, 2),), ((0, 0),), ((0, 1),))),
               ((0, 1, 2), (((1, 1), (2, 2)), ((0, 0), (1, 1), (2, 0)), ((0, 1),), ((0, 0), (1, 3))))), (), ((), (), ()))
PAIR24 = (3, (((0, 1), (((0, 1),), ((0, 2), (1, 2)), ((0, 3), (1, 0)), ((0, 0),))),
              ((2,), (((2, 1),), ((2, 2),), ((2, 0),), ())),
              ((1,), (((1, 1),), ((1, 0),), ((1, 3),), ((1, 3),)))), (), ((), (), ()))
PAIR32 = PAIR24[:1] + (PAIR24[1][:1] + (((2,), (((2, 1),), ((2, 2),), ((2, 3),), ())),) + PAIR24[1][2:],) + PAIR24[2:]
SAMPLES = (RING, SHARED, CUBE, STILL, SIX, TRAP, WIDE)


# ---------------------------------------------------------------- what is no argument as told

class Odd:
    """An object of no kind that the document knows."""


class Equal:
    """An object that says of itself that it is equal to anything, and has any size."""

    def __eq__(self, other):
        return True

    def __hash__(self):
        return 0

    def __len__(self):
        return 2


def junk():
    """Things of many kinds, none of which is a tuple of anything, or an integer that could be meant."""
    return [None, True, False, -1, 7, 10 ** 999, 1.0, 0.0, "", "kept", b"", [], [0], [()], {}, {0: 0}, set(), frozenset(),
            Odd(), Odd, Equal(), (Equal(),), (Equal(), 0), junk, range(2), (None,), (True,), (False,), ([],), ("a",), (0.0,), ((),), (-1,), (7,), (10 ** 999,),
            ((0,),), ((0, 0),), ((True, False),), (0, 0, 0, 0, 0), ((), (), (), (), ())]


def paths_of(thing, path=()):
    """The paths of all things within a thing that are tuples or stand in tuples, its own one ahead."""
    found = [path]
    if isinstance(thing, tuple):
        for index, part in enumerate(thing):
            found += paths_of(part, path + (index,))
    return found


def at_path(thing, path):
    for index in path:
        thing = thing[index]
    return thing


def with_at(thing, path, new):
    """The thing with another one at a path."""
    if not path:
        return new
    return thing[:path[0]] + (with_at(thing[path[0]], path[1:], new),) + thing[path[0] + 1:]


def changes_of(part):
    """What may stand in the place of a thing to be another one: of other kinds, longer, shorter, in another order."""
    found = [None, True, False, "a", [], 1.0, (), -1, 10 ** 30]
    if isinstance(part, tuple):
        found += [list(part), part + part[-1:], part + (0,), part + ((),), part + (None,), part[::-1], (part,)]
        found += [part[:k] + part[k + 1:] for k in range(len(part))]
        found += [part[:k] + part[k:k + 1] + part[k:] for k in range(len(part))]
        found += [part[:k] + (part[k + 1], part[k]) + part[k + 2:] for k in range(len(part) - 1)]
    elif isinstance(part, str):
        found += [part + "s", part.upper(), "kept", "lost", "not", ""]
    elif part is None:
        found += [0, ()]
    else:
        found += [part + 1, part - 1, 0, 1, 2, 3, float(part), str(part), (part,), bool(part)]
    return found


def mutations(thing, chance=None, most=None):
    """Things that are otherwise at one path; at most so many of them, taken by chance."""
    found = [with_at(thing, path, new) for path in paths_of(thing) for new in changes_of(at_path(thing, path))]
    if most is not None and len(found) > most:
        found = chance.sample(found, most)
    return found


def same_kind(one, two):
    """Whether two things are equal, and of the same kinds throughout (so 1, True and 1.0 are not)."""
    if type(one) is not type(two):
        return False
    if isinstance(one, (tuple, list)):
        return len(one) == len(two) and all(same_kind(a, b) for a, b in zip(one, two))
    return one == two


# ---------------------------------------------------------------- [1], [10], [11] told again

def told_int(thing, low, high):
    return type(thing) is int and low <= thing <= high


def told_tuple(thing, low, high):
    return type(thing) is tuple and low <= len(thing) <= high


def told_lot(thing, many):
    """Whether it is an ascending tuple of integers below many."""
    if type(thing) is not tuple:
        return False
    ahead = -1
    for number in thing:
        if not told_int(number, 0, many - 1) or number <= ahead:
            return False
        ahead = number
    return True


def told_row(thing, deeds, low=0, high=10 ** 9):
    return told_tuple(thing, low, high) and all(told_int(deed, 0, deeds - 1) for deed in thing)


def told_steps(rows, has):
    if not told_tuple(rows, 1, 4):
        return False
    for row in rows:
        if type(row) is not tuple:
            return False
        for pair in row:
            if not told_tuple(pair, 2, 2) or type(pair[0]) is not int or pair[0] not in has:
                return False
            if not told_int(pair[1], 0, len(rows) - 1):
                return False
        if not told_lot(tuple(pair[0] for pair in row), 6):
            return False
    return True


def told_works(thing):
    """None of WORKS, otherwise the error that is due as a pair of its name and its field."""
    if not told_tuple(thing, 4, 4):
        return ("BadWorks", "form")
    if not told_int(thing[0], 1, 6):
        return ("BadWorks", "deeds")
    if not told_tuple(thing[1], 1, 3):
        return ("BadWorks", "machines")
    for number, machine in enumerate(thing[1]):
        if not told_tuple(machine, 2, 2) or not told_lot(machine[0], thing[0]) or not told_steps(machine[1], machine[0]):
            return ("BadWorks", number)
    if not told_lot(thing[2], thing[0]):
        return ("BadWorks", "free")
    if not told_tuple(thing[3], len(thing[1]), len(thing[1])):
        return ("BadWorks", "goals")
    for machine, lot in zip(thing[1], thing[3]):
        if not told_lot(lot, len(machine[1])):
            return ("BadWorks", "goals")
    if len(told_places(thing)) > 24:
        return ("TooMany", 24)
    return None


def told_do(works, place, deed):
    """The place behind a deed, or None."""
    having = [k for k, machine in enumerate(works[1]) if deed in machine[0]]
    after = list(place)
    for k in having:
        targets = [state for other, state in works[1][k][1][place[k]] if other == deed]
        if not targets:
            return None
        after[k] = targets[0]
    return tuple(after) if having else None


def told_start(works):
    return tuple(0 for _ in works[1])


def told_all_places(works):
    return list(itertools.product(*[range(len(machine[1])) for machine in works[1]]))


def told_place(works, run):
    """The place of a RUN, or None of what is no RUN."""
    place = told_start(works)
    for deed in run:
        place = told_do(works, place, deed)
        if place is None:
            return None
    return place


def told_places(works):
    """The set of the places that come."""
    known = {told_start(works)}
    while True:
        more = {told_do(works, place, deed) for place in known for deed in range(works[0])} - {None}
        if more <= known:
            return known
        known |= more


def told_goal(works, place):
    return all(state in lot for state, lot in zip(place, works[3]))


def told_rows(deeds, most):
    """All rows of at most so many deeds, the first ones ahead."""
    for length in range(most + 1):
        yield from itertools.product(range(deeds), repeat=length)


def told_runs(works, most):
    """All RUNS of at most so many deeds, the first ones ahead."""
    longest = [()]
    runs = [()]
    for _ in range(most):
        longest = [run + (deed,) for run in longest for deed in range(works[0])
                   if told_place(works, run + (deed,)) is not None]
        runs += longest
    return runs


def told_is_place(works, thing):
    return told_tuple(thing, len(works[1]), len(works[1])) and all(
        told_int(state, 0, len(machine[1]) - 1) for state, machine in zip(thing, works[1]))


# ---------------------------------------------------------------- [20], [22] told again

def told_wish(deeds, thing):
    """None of a WISH, otherwise the part that is due."""
    if not told_tuple(thing, 2, 2):
        return "form"
    if not told_tuple(thing[0], 1, 6):
        return "steps"
    for row in thing[0]:
        if not told_tuple(row, deeds, deeds) or not all(told_int(state, 0, len(thing[0]) - 1) for state in row):
            return "steps"
    if not told_lot(thing[1], len(thing[0])) or 0 not in thing[1]:
        return "good"
    return None


def told_state(wish, row):
    state = 0
    for deed in row:
        state = wish[0][state][deed]
    return state


def told_wished(wish, row):
    """Whether the states behind all beginnings are good."""
    return all(told_state(wish, row[:k]) in wish[1] for k in range(len(row) + 1))


def told_standings(works, wish):
    """The set of the STANDINGS."""
    known = {(told_start(works), 0)}
    while True:
        more = set()
        for place, state in known:
            for deed in range(works[0]):
                after = told_do(works, place, deed)
                if after is not None and wish[0][state][deed] in wish[1]:
                    more.add((after, wish[0][state][deed]))
        if more <= known:
            return known
        known |= more


def told_is_pair(works, wish, thing):
    """Whether it is a pair of a place and a good state."""
    return told_tuple(thing, 2, 2) and told_is_place(works, thing[0]) and type(thing[1]) is int and thing[1] in wish[1]


def told_next(works, wish, pair, deed):
    """The pair behind a deed, "out" if its state is not good, None if the deed cannot be done."""
    after = told_do(works, pair[0], deed)
    if after is None:
        return None
    state = wish[0][pair[1]][deed]
    return (after, state) if state in wish[1] else "out"


def told_ascending(things):
    return all(things[k] < things[k + 1] for k in range(len(things) - 1))


# ---------------------------------------------------------------- [23] told again

WANTS = {"begins": ("row",), "ends": ("row",), "has": ("row",), "most": ("lot", "number"), "till": ("lot", "lot", "lot"),
         "not": ("saying",), "and": ("saying", "saying"), "or": ("saying", "saying")}


def told_saying(deeds, thing):
    """None of a SAYING, otherwise the path that is due."""
    known = {"all": 0, "plain": 0}
    kinds = {"row": lambda part: told_row(part, deeds, 1, 3), "lot": lambda part: told_lot(part, deeds),
             "number": lambda part: told_int(part, 0, 3), "saying": lambda part: True}

    def look(part, path):
        known["all"] += 1
        if known["all"] == 10 or len(path) == 5:
            return ()
        if type(part) is not tuple or not part or type(part[0]) is not str or part[0] not in WANTS:
            return path
        wants = WANTS[part[0]]
        if len(part) != len(wants) + 1 or not all(kinds[want](inner) for want, inner in zip(wants, part[1:])):
            return path
        if "saying" not in wants:
            known["plain"] += 1
            return () if known["plain"] == 5 else None
        for index in range(1, len(part)):
            found = look(part[index], path + (index,))
            if found is not None:
                return found
        return None
    return look(thing, ())


def told_holds(saying, row):
    """Whether a SAYING holds of a row, straight by the words of the document."""
    word = saying[0]
    if word == "begins":
        both = min(len(row), len(saying[1]))
        return row[:both] == saying[1][:both]
    if word == "ends":
        return len(row) >= len(saying[1]) and row[len(row) - len(saying[1]):] == saying[1]
    if word == "has":
        return any(told_holds(("ends", saying[1]), row[:k]) for k in range(len(row) + 1))
    if word == "most":
        return not any(all(deed in saying[1] for deed in row[k:k + saying[2] + 1])
                       for k in range(len(row) - saying[2]))
    if word == "till":
        return told_till(saying, row)
    if word == "not":
        return not told_holds(saying[1], row)
    parts = [told_holds(part, row) for part in saying[1:]]
    return all(parts) if word == "and" else any(parts)


def told_till(saying, row):
    _, first, second, third = saying
    for begin, deed in enumerate(row):
        if deed in first:
            ends = [k for k in range(begin + 1, len(row)) if row[k] in third]
            end = ends[0] if ends else len(row)
            if any(row[k] in second for k in range(begin + 1, end)):
                return False
    return True


# ---------------------------------------------------------------- chance

def some_lot(chance, many, part=0.5):
    return tuple(number for number in range(many) if chance.random() < part)


def some_machine(chance, deeds, most=4, part=0.7, has=0.7):
    has = some_lot(chance, deeds, has)
    many = chance.randint(1, most)
    rows = tuple(tuple((deed, chance.randrange(many)) for deed in has if chance.random() < part) for _ in range(many))
    return (has, rows)


def some_works(chance, deeds=None, machines=None, most=4, part=0.7):
    """WORKS by chance, of which at most 24 places come."""
    while True:
        many = deeds or chance.randint(1, 3)
        parts = tuple(some_machine(chance, many, most, part) for _ in range(machines or chance.randint(1, 3)))
        goals = tuple(some_lot(chance, len(machine[1]), 0.6) for machine in parts)
        works = (many, parts, some_lot(chance, many, 0.3), goals)
        if len(told_places(works)) <= 24:
            return works


def some_wish(chance, deeds, most=6, part=0.75):
    many = chance.randint(1, most)
    steps = tuple(tuple(chance.randrange(many) for _ in range(deeds)) for _ in range(many))
    return (steps, (0,) + tuple(state for state in range(1, many) if chance.random() < part))


def chance_of(seed):
    return random.Random(seed)


# ---------------------------------------------------------------- calls

def outcome(call, *args, **more):
    """("ok", value) of a call, or the name and the field of the error that it raises."""
    try:
        return ("ok", call(*args, **more))
    except (ValueError, LookupError, OverflowError) as error:
        name = type(error).__name__
        for field in ("part", "line", "most"):
            if hasattr(error, field):
                return (name, getattr(error, field))
        return (name,)


def named(name, error):
    """An outcome as a told error: the same one with its name and its field."""
    return (name,) if error is None else (name, error)


def some_saying(chance, deeds, depth=2):
    """A SAYING by chance, of at most 3 words within one another and at most 4 plain ones."""
    word = chance.choice(list(WANTS) if depth else list(WANTS)[:5])
    if word in ("begins", "ends", "has"):
        return (word, tuple(chance.randrange(deeds) for _ in range(chance.randint(1, 3))))
    if word == "most":
        return (word, some_lot(chance, deeds), chance.randint(0, 3))
    if word == "till":
        return (word,) + tuple(some_lot(chance, deeds) for _ in range(3))
    return (word,) + tuple(some_saying(chance, deeds, depth - 1) for _ in WANTS[word])


# ---------------------------------------------------------------- [40] to [44] told again

# 4 * 3 places, and 13 by a machine of three and one of four states that shares a deed with it.
TWELVE = (2, (((0,), (((0, 1),), ((0, 2),), ((0, 3),), ((0, 0),))), ((1,), (((1, 1),), ((1, 2),), ((1, 0),)))), (), ((), ()))
# 2 * 4 places: just 8; and 3 * 3.
EIGHT = (2, (((0,), (((0, 1),), ((0, 0),))), ((1,), (((1, 1),), ((1, 2),), ((1, 3),), ((1, 0),)))), (), ((1,), (3,)))
NINE = (2, (((0,), (((0, 1),), ((0, 2),), ((0, 0),))), ((1,), (((1, 1),), ((1, 2),), ((1, 0),)))), (), ((1,), (2,)))


def all_sights(deeds):
    return [sight for many in range(deeds + 1) for sight in itertools.combinations(range(deeds), many)]


def told_look(sight, run):
    look = ()
    for deed in run:
        if deed in sight:
            look += (deed,)
    return look


def told_good(works, wish, pair, deed):
    """The pair behind a deed if the RUN with it is wished, otherwise None."""
    after = told_next(works, wish, pair, deed)
    return None if after == "out" else after


def told_grown(works, wish, sight, lot):
    """The frozenset of the STANDINGS to which unseen deeds lead."""
    while True:
        more = {told_good(works, wish, pair, deed) for pair in lot for deed in range(works[0]) if deed not in sight}
        more -= {None}
        if more <= lot:
            return frozenset(lot)
        lot = lot | more


def told_first_lot(works, wish, sight):
    """The STANDINGS of all wished RUNS with the LOOK ()."""
    return told_grown(works, wish, sight, frozenset([(told_start(works), 0)]))


def told_lot_behind(works, wish, sight, lot, deed):
    """Those with one seen deed more in the LOOK; empty of none."""
    return told_grown(works, wish, sight, frozenset(told_good(works, wish, pair, deed) for pair in lot) - {None})


def told_lot_of(works, wish, sight, look):
    """The STANDINGS of all wished RUNS with a LOOK."""
    lot = told_first_lot(works, wish, sight)
    for deed in look:
        lot = told_lot_behind(works, wish, sight, lot, deed) if deed in sight else frozenset()
    return lot


def told_lots(works, wish, sight):
    """For each lot of STANDINGS that all wished RUNS with some LOOK have, the first such LOOK."""
    first = told_first_lot(works, wish, sight)
    looks = {first: ()}
    layer = [first]
    while layer:
        following = []
        for lot in layer:
            for deed in sight:
                after = told_lot_behind(works, wish, sight, lot, deed)
                if after and after not in looks:
                    looks[after] = looks[lot] + (deed,)
                    following.append(after)
        layer = following
    return looks


def told_outs(works, wish, pair):
    """The deeds that lead out from a STANDING."""
    return [deed for deed in range(works[0]) if told_next(works, wish, pair, deed) == "out"]


def told_run(works, wish, value):
    """The STANDING behind any value as a wished RUN, or None."""
    if type(value) is not tuple or not all(told_int(deed, 0, works[0] - 1) for deed in value):
        return None
    pair = (told_start(works), 0)
    for deed in value:
        pair = told_good(works, wish, pair, deed)
        if pair is None:
            return None
    return pair


def told_form(sizes, paper):
    """Whether it has the form of a paper."""
    return type(paper) is tuple and len(paper) > 0 and type(paper[0]) is str and sizes.get(paper[0]) == len(paper)


def told_judged(sizes, paper, holds):
    """What a check does with a paper: holds() tells whether one that has the form is as told."""
    if not told_form(sizes, paper):
        return ("BadPaper", "form")
    return ("ok", paper[0]) if holds() else ("BadPaper", paper[0])


def hold_papers(test, check, told, args, paper, chance, most, many):
    """Compares the check with what is told of a paper and such that are otherwise; counts the words that are let by."""
    test.assertEqual(outcome(check, *args, paper), ("ok", paper[0]), (args, paper))
    test.assertEqual(told(*args, paper), ("ok", paper[0]), (args, paper))
    for thing in mutations(paper, chance, most):
        due = told(*args, thing)
        test.assertEqual(outcome(check, *args, thing), due, (args, thing))
        if due[0] == "ok":
            many[due[1]] = many.get(due[1], 0) + 1


def no_papers(words):
    """Things that are no papers with one of these words, each with a number of things behind it."""
    found = [None, (), 0, True, [], {}, "", Odd(), Equal(), (None,), (True, ()), ((),), ([], ()), (("kept",), ()), (b"kept", ()), ("", ())]
    for word, many in words.items():
        full = (word,) + ((),) * many
        found += [word, list(full), full[:-1], full + ((),), (word.upper(),) + full[1:], (word + " ",) + full[1:],
                  (full,), (Odd(),) + full[1:], (Equal(),) + full[1:], ("kep",) + full[1:], ("wished",) + full[1:]]
    return found


# ---------------------------------------------------------------- [50] told again

def told_posts(works, thing):
    """None of POSTS, otherwise the part that is due."""
    if not told_tuple(thing, 2, 3):
        return "form"
    for number, post in enumerate(thing):
        if not told_tuple(post, 2, 2) or not told_lot(post[0], works[0]) or not told_lot(post[1], works[0]):
            return number
        if set(post[1]) & set(works[2]):
            return number
    return None


def some_posts(chance, works, many=None):
    can = [deed for deed in range(works[0]) if deed not in works[2]]
    return tuple((some_lot(chance, works[0]), tuple(deed for deed in can if chance.random() < 0.7))
                 for _ in range(many or chance.randint(2, 3)))


# ---------------------------------------------------------------- [52] told again

def told_is_team(posts, thing):
    if not told_tuple(thing, len(posts), len(posts)):
        return False
    for (sight, held), mind in zip(posts, thing):
        if not told_tuple(mind, 1, 4):
            return False
        for pair in mind:
            if not told_tuple(pair, 2, 2) or not told_lot(pair[0], 6) or not set(pair[0]) <= set(held):
                return False
            if not told_tuple(pair[1], len(sight), len(sight)) or not all(told_int(to, 0, len(mind) - 1) for to in pair[1]):
                return False
    return True


def some_team(chance, posts, part=0.4):
    team = []
    for sight, held in posts:
        many = chance.randint(1, 4)
        team.append(tuple((tuple(deed for deed in held if chance.random() < part),
                           tuple(chance.randrange(many) for _ in sight)) for _ in range(many)))
    return tuple(team)


def told_moved(posts, team, numbers, deed):
    """The numbers behind a deed, or None if an ORDER forbids it."""
    if any(deed in mind[number][0] for mind, number in zip(team, numbers)):
        return None
    behind = []
    for (sight, _), mind, number in zip(posts, team, numbers):
        behind.append(mind[number][1][sight.index(deed)] if deed in sight else number)
    return tuple(behind)


def told_passing(works, posts, team, node, deed):
    """The place and the numbers behind a deed that passes, or None."""
    place, numbers = told_do(works, node[0], deed), told_moved(posts, team, node[1], deed)
    return None if place is None or numbers is None else (place, numbers)


def told_node(works, posts, team, value):
    """The place and the numbers behind any value as a RUN that passes, or None."""
    if type(value) is not tuple or not all(told_int(deed, 0, works[0] - 1) for deed in value):
        return None
    node = (told_start(works), (0,) * len(posts))
    for deed in value:
        node = told_passing(works, posts, team, node, deed)
        if node is None:
            return None
    return node


# ---------------------------------------------------------------- [80] told again

def told_wire(works, thing):
    """None of a WIRE, otherwise the part that is due."""
    if not told_tuple(thing, 3, 3):
        return "form"
    if not told_lot(thing[0], works[0]) or len(thing[0]) > 3:
        return "sight"
    if not told_int(thing[1], 0, 2):
        return "delay"
    return None if told_int(thing[2], 0, 2) else "loss"


def some_wire(chance, works):
    return (some_lot(chance, works[0])[:3], chance.randint(0, 2), chance.randint(0, 2))


def told_event(works, wire, at, event):
    """The place, WAY and GONE behind any value as an event, and what is heard, or None; None of what is no event."""
    sight, delay, loss = wire
    place, way, gone = at
    if not told_tuple(event, 2, 2) or type(event[0]) is not str or not told_int(event[1], 0, works[0] - 1):
        return None
    word, deed = event
    if word == "come":
        return ((place, way[1:], gone), deed) if way[:1] == (deed,) else None
    after = told_do(works, place, deed)
    if after is None or word not in ("done", "lost"):
        return None
    if word == "lost":
        return ((after, way, gone + 1), None) if deed in sight and gone < loss else None
    if deed not in sight:
        return ((after, way, gone), None)
    way += (deed,)
    return ((after, way[1:], 0), way[0]) if len(way) > delay else ((after, way, 0), None)


def told_course(works, wire, value):
    """The RUN, the NEWS and the last place of any value as a COURSE; None of what is none."""
    if type(value) is not tuple:
        return None
    at = (told_start(works), (), 0)
    run, news = (), ()
    for event in value:
        found = told_event(works, wire, at, event)
        if found is None:
            return None
        at, heard = found
        run += event[1:] if event[0] != "come" else ()
        news += (heard,) if heard is not None else ()
    return run, news, at[0]


def all_events(deeds):
    return [(word, deed) for word in ("come", "done", "lost") for deed in range(deeds)]


def told_moves(works, wish, wire, span):
    """The events of a SPAN behind which the state is good, each with what is heard and the SPAN behind it."""
    found = []
    place, state, way, gone = span
    for event in all_events(works[0]):
        after = told_event(works, wire, (place, way, gone), event)
        if after is not None:
            then = state if event[0] == "come" else wish[0][state][event[1]]
            if then in wish[1]:
                found.append((event, after[1], (after[0][0], then) + after[0][1:]))
    return found


def told_spans(works, wish, wire, most=10 ** 9):
    """The set of the SPANS that come; it may end early behind more than so many."""
    first = (told_start(works), 0, (), 0)
    known = {first}
    waiting = [first]
    while waiting and len(known) <= most:
        for _, _, target in told_moves(works, wish, wire, waiting.pop()):
            if target not in known:
                known.add(target)
                waiting.append(target)
    return known


# ---------------------------------------------------------------- [90] told again

def told_entry(deeds, thing):
    if not told_tuple(thing, 4, 4) or not told_lot(thing[0], deeds) or not told_int(thing[1], 0, 2):
        return False
    if not told_row(thing[2], deeds, 0, 8) or not set(thing[2]) <= set(thing[0]):
        return False
    return type(thing[3]) is str and thing[3] in ("done", "never")


def told_log(deeds, thing):
    """None of a LOG, otherwise the part that is due."""
    if not told_tuple(thing, 0, 8):
        return "form"
    wrong = [number for number, entry in enumerate(thing) if not told_entry(deeds, entry)]
    return wrong[0] if wrong else None


def told_shows(entry, row):
    """Whether a row shows an ENTRY: by all ways to lose some of its seen deeds."""
    seen, loss, kept, _ = entry
    looks = {((), 0)}
    for deed in told_look(seen, row):
        after = {(stay + (deed,), 0) for stay, lost in looks if kept[:len(stay) + 1] == stay + (deed,)}
        looks = after | {(stay, lost + 1) for stay, lost in looks if lost < loss}
    return any(stay == kept for stay, _ in looks)


def some_entry(chance, deeds, is_plain=False, most=8):
    seen = tuple(range(deeds)) if is_plain or chance.random() < 0.3 else some_lot(chance, deeds, 0.7)
    loss = 0 if is_plain else chance.choice([0, 0, 1, 2])
    row = tuple(chance.choice(seen) for _ in range(chance.randint(0, most))) if seen else ()
    return (seen, loss, row, chance.choice(["done", "never"]))


def some_log(chance, deeds, is_plain=False, most=8, many=None):
    many = chance.randint(0, 8) if many is None else many
    return tuple(some_entry(chance, deeds, is_plain, most) for _ in range(many))


# WORKS, a WISH and a WIRE with just 60 SPANS, and such with 61.
SPANS60 = ((3, (((0, 1, 2), (((0, 0), (1, 1), (2, 2)), ((0, 1), (1, 2), (2, 2)), ((0, 1), (1, 1), (2, 2)))),), (2,), ((1,),)),
           (((1, 0, 2), (1, 0, 2), (0, 0, 0)), (0, 1, 2)), ((0, 1), 2, 1))
SPANS61 = ((3, (((1,), (((1, 0),), ((1, 1),), ((1, 2),), ((1, 2),))), ((0,), (((0, 2),), (), ((0, 3),), ((0, 3),)))), (2,),
            ((1, 2), ())), (((0, 1, 1), (1, 1, 1)), (0, 1)), ((0, 1), 2, 2))
