"""[42], [44], [46], [50], [60], [62], [63] by the words alone, on WORKS that have finitely many RUNS: all of them are looked at."""

import itertools
import unittest

from common import (all_sights, chance_of, some_lot, some_posts, some_wish, told_do, told_goal, told_look, told_place,
                    told_places, told_standings, told_start, told_state, told_wished)
from worksward.aims import can_bring, seen_at_most
from worksward.faults import least_told
from worksward.foresight import are_foreseen, doomed_places
from worksward.normals import has_normal, in_normal, normal_order
from worksward.posts import can_post, sure_order
from worksward.secrets import does_hide, greatest_masks
from worksward.sightkeeps import can_keep_by, least_order


def some_finite_works(chance, deeds):
    """WORKS each of whose deeds leads on to a greater state: no RUN has more than nine deeds."""
    machines = []
    for _ in range(chance.randint(1, 2)):
        many = chance.randint(2, 4)
        has = some_lot(chance, deeds, 0.8)
        rows = tuple(tuple((deed, chance.randint(state + 1, many - 1)) for deed in has if chance.random() < 0.8)
                     if state < many - 1 else () for state in range(many))
        machines.append((has, rows))
    goals = tuple(some_lot(chance, len(rows), 0.5) for _, rows in machines)
    return (deeds, tuple(machines), some_lot(chance, deeds, 0.3), goals)


def all_runs(works):
    runs = [()]
    for run in runs:
        runs += [run + (deed,) for deed in range(works[0]) if told_place(works, run + (deed,)) is not None]
    return runs


def cases(seed, many, most=12, places=24):
    chance = chance_of(seed)
    found = 0
    while found < many:
        works = some_finite_works(chance, chance.randint(1, 3))
        wish = some_wish(chance, works[0], 3, part=0.6)
        if len(told_standings(works, wish)) <= most and len(told_places(works)) <= places and len(all_runs(works)) < 60:
            found += 1
            yield chance, works, wish, some_lot(chance, works[0])


class Keeping(unittest.TestCase):
    def test_a_post_keeps_a_wish(self):
        # All ORDERS behind all LOOKS are tried one LOOK at a time: those behind different LOOKS do not touch one another.
        seen = {True: 0, False: 0}
        for _, works, wish, sight in cases(300, 600):
            runs = all_runs(works)
            wished = [run for run in runs if told_wished(wish, run)]
            can = [deed for deed in range(works[0]) if deed not in works[2]]
            due = True
            for look in {told_look(sight, run) for run in wished}:
                those = [run for run in wished if told_look(sight, run) == look]
                fits = []
                for order in itertools.chain.from_iterable(itertools.combinations(can, k) for k in range(len(can) + 1)):
                    passing = {run + (deed,) for run in those for deed in range(works[0])
                               if run + (deed,) in runs and deed not in order}
                    due_ones = {run for run in wished if run and run[:-1] in those}
                    if passing == due_ones:
                        fits.append(order)
                due = due and bool(fits)
            seen[due] += 1
            self.assertIs(can_keep_by(works, wish, sight), due)
            if due:
                self.by_least_orders(works, wish, sight, runs, wished)
        self.assertTrue(min(seen.values()) > 20, seen)

    def by_least_orders(self, works, wish, sight, runs, wished):
        for run in wished:
            order = least_order(works, wish, sight, told_look(sight, run))
            self.assertFalse(set(order) & set(works[2]))
            for deed in range(works[0]):
                if run + (deed,) in runs:
                    self.assertEqual(deed not in order, run + (deed,) in wished)

    def test_posts_keep_a_wish(self):
        seen = {True: 0, False: 0}
        for chance, works, wish, _ in cases(301, 500, 8):
            posts = some_posts(chance, works)
            runs = all_runs(works)
            wished = [run for run in runs if told_wished(wish, run)]

            def is_misled(post, run):
                return any(told_look(post[0], other) == told_look(post[0], run[:-1]) and other + run[-1:] in wished for other in wished)
            out = [run for run in runs if run and run not in wished and run[:-1] in wished]
            due = not any(all(is_misled(post, run) for post in posts if run[-1] in post[1]) for run in out)
            seen[due] += 1
            self.assertIs(can_post(works, wish, posts), due)
            for run in wished:
                forbidden = set()
                for number, (sight, held) in enumerate(posts):
                    look = told_look(sight, run)
                    those = [other for other in wished if told_look(sight, other) == look]
                    order = tuple(deed for deed in held if any(other + (deed,) in out for other in those)
                                  and not any(other + (deed,) in wished for other in those))
                    self.assertEqual(sure_order(works, wish, posts, number, look), order)
                    forbidden |= set(order)
                if due:
                    for deed in range(works[0]):
                        if run + (deed,) in runs:
                            self.assertEqual(deed not in forbidden, run + (deed,) in wished)
        self.assertTrue(min(seen.values()) > 20, seen)

    def test_the_normal_part(self):
        seen = {0: 0, 1: 0, 2: 0}
        for _, works, wish, sight in cases(302, 600):
            runs = all_runs(works)
            part = {run for run in runs if told_wished(wish, run)}
            while True:
                less = {run for run in part if run == () or run[:-1] in part}
                less = {run for run in less if all(run + (deed,) in part for deed in works[2] if run + (deed,) in runs)}
                less = {run for run in less if all(other in part for other in runs if told_look(sight, other) == told_look(sight, run))}
                if less == part:
                    break
                part = less
            seen[min(2, len(part))] += 1
            self.assertIs(has_normal(works, wish, sight), len(part) > 0)
            for run in runs:
                self.assertIs(in_normal(works, wish, sight, run), run in part)
            for run in part:
                order = normal_order(works, wish, sight, told_look(sight, run))
                for deed in range(works[0]):
                    if run + (deed,) in runs:
                        self.assertEqual(deed not in order, run + (deed,) in part)
        self.assertTrue(min(seen.values()) > 10, seen)


class Aims(unittest.TestCase):
    def test_what_a_post_brings_to_a_goal(self):
        seen = {}
        for _, works, _, sight in cases(303, 700, 99, 8):
            runs = all_runs(works)
            been = {run for run in runs if any(told_goal(works, told_place(works, run[:k])) for k in range(len(run) + 1))}
            can = [deed for deed in range(works[0]) if deed not in works[2]]
            orders = [order for k in range(len(can) + 1) for order in itertools.combinations(can, k)]

            def least(those):
                """Of RUNS with one LOOK that have been at no GOAL: the least number of seen deeds more, or None."""
                best = None
                for order in orders:
                    wide = list(those)
                    for run in wide:
                        wide += [run + (deed,) for deed in range(works[0]) if deed not in sight and deed not in order
                                 and run + (deed,) in runs and run + (deed,) not in been]
                    if any(all(deed in order or run + (deed,) not in runs for deed in range(works[0])) for run in wide):
                        continue
                    many = 0
                    for deed in sight:
                        after = [run + (deed,) for run in wide if deed not in order and run + (deed,) in runs]
                        if after and many is not None:
                            left = [run for run in after if run not in been]
                            more = least(left) if left else 0
                            many = None if more is None else max(many, 1 + more)
                    if many is not None and (best is None or many < best):
                        best = many
                return best
            due = 0 if () in been else least([()])
            seen[due] = seen.get(due, 0) + 1
            self.assertEqual(seen_at_most(works, sight), due)
            self.assertIs(can_bring(works, sight), due is not None)
        self.assertTrue(min(seen.get(due, 0) for due in (None, 0, 1, 2)) > 3, seen)


class FaultsAndSecrets(unittest.TestCase):
    def test_faults_are_told(self):
        seen = {}
        for chance, works, _, sight in cases(304, 600, 99, 12):
            faults = some_lot(chance, works[0], 0.4) or (0,)
            runs = all_runs(works)
            clear = {told_look(sight, run) for run in runs if not set(run) & set(faults)}
            due = 0
            for run in runs:
                if set(run) & set(faults) and told_look(sight, run) in clear:
                    first = min(k for k, deed in enumerate(run) if deed in faults)
                    due = max(due, len(run) - first)
            seen[due] = seen.get(due, 0) + 1
            self.assertEqual(least_told(works, faults, sight), due)
        self.assertTrue(seen[0] > 20 and seen[1] > 20 and seen[2] > 5, seen)

    def test_faults_are_foreseen(self):
        seen = {True: 0, False: 0}
        for chance, works, _, sight in cases(305, 600, 99, 12):
            faults = some_lot(chance, works[0], 0.5) or (0,)
            runs = all_runs(works)

            def is_doomed(place):
                """Each way on from it that ends at a still place has a fault."""
                ways = [(place, False)]
                for at, is_faulty in ways:
                    behind = [(told_do(works, at, deed), is_faulty or deed in faults) for deed in range(works[0])]
                    behind = [way for way in behind if way[0] is not None]
                    if not behind and not is_faulty:
                        return False
                    ways += behind
                return True
            doomed = {place for place in told_places(works) if is_doomed(place)}
            self.assertEqual(doomed_places(works, faults), tuple(sorted(doomed)))
            clear = [run for run in runs if not set(run) & set(faults)]
            due = True
            for run in clear:
                if any(run + (deed,) in runs for deed in faults):
                    due = due and all(told_place(works, other) in doomed for other in clear
                                      if told_look(sight, other) == told_look(sight, run))
            seen[due] += 1
            self.assertIs(are_foreseen(works, faults, sight), due)
        self.assertTrue(min(seen.values()) > 20, seen)

    def test_secrets(self):
        seen = {True: 0, False: 0}
        found = 0
        for _, works, wish, _ in cases(306, 1500, 8, 8):
            runs = all_runs(works)
            if len({(told_place(works, run), told_state(wish, run)) for run in runs}) > 8:
                continue
            hiding = []
            for sight in all_sights(works[0]):
                clear = {told_look(sight, run) for run in runs if told_state(wish, run) in wish[1]}
                due = all(told_look(sight, run) in clear for run in runs)
                seen[due] += 1
                self.assertIs(does_hide(works, wish, sight), due)
                if due:
                    hiding.append(sight)
            masks = tuple(sorted(sight for sight in hiding if not any(set(sight) < set(other) for other in hiding)))
            self.assertEqual(greatest_masks(works, wish), masks)
            found += len(masks) > 1
        self.assertTrue(min(seen.values()) > 50 and found > 5, (seen, found))


if __name__ == "__main__":
    unittest.main()
