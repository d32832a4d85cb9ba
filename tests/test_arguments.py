"""[1] The general rules, for every call: names, order, what is refused, and what stays as it was."""

import ast
import copy
import importlib
import inspect
import itertools
import os
import unittest

from common import (BOUND24, CUBE, JUST24, MORE32, PAIR24, PAIR32, WIDE27, Odd, MANY, RING, SHARED, SIX, TRAP, chance_of, junk, mutations, outcome,
                    same_kind, told_course, told_int, told_is_team, told_is_place, told_log, told_lot, told_place, told_posts, told_row, told_saying,
                    told_steps, told_tuple, told_wire, told_wish, told_works)
from test_leastlogs import told_starts
from test_wires import told_may_be

OUT = ("OutOfPlace",)
# Wishes for two deeds, for three and for four.
TWO = (((0, 1), (1, 0), (2, 2)), (0, 1))
TWO_MORE = (((1, 0), (1, 2), (2, 2)), (0, 1))
THREE = (((0, 0, 1), (1, 1, 1)), (0,))
FOUR = (((0, 0, 1, 0), (1, 0, 1, 1)), (0, 1))
# By deed 1, which cannot be stopped, it comes to a place that is lost.
SHUT = (3, (((0, 1, 2), (((0, 1), (1, 1)), ())),), (1,), ((0,),))
FORK = (3, (((0, 1, 2), (((0, 1), (1, 2)), ((2, 0),), ((2, 0),))),), (), ((0,),))
ONE_WAY = (((1, 0, 2), (1, 0, 0), (2, 2, 2)), (0, 1))
POSTS = (((1,), (2,)), ((0,), (0, 1)))
TEAM = ((((), (1,)), ((2,), (0,))), (((), (0,)),))
ONES = (((0, 1, 0), (0, 1, 1)), (0,))
SAYING = ("and", ("has", (0,)), ("not", ("most", (0, 1), 2)))
WIRE = ((0, 1), 1, 1)
COURSE = (("done", 0), ("lost", 0), ("come", 0), ("done", 1))
LOG = (((0, 1), 1, (0, 1), "done"), ((1,), 0, (), "never"))
PLAIN = (((0, 1), 0, (0, 1, 1), "done"), ((0, 1), 0, (1,), "never"))
CASE = ("same", (2, TWO, TWO_MORE), ("unlike", (0, 1)))


def told_plan(thing):
    if not told_tuple(thing, 3, 3) or not told_int(thing[0], 1, 6):
        return OUT
    if not told_steps(thing[1], tuple(range(thing[0]))) or not told_lot(thing[2], len(thing[1])):
        return OUT
    return None


def told_run(works, thing):
    return told_row(thing, works[0], 0, 400) and told_place(works, thing) is not None


def told_names(deeds, thing):
    return told_row(thing, deeds) and len(thing) == deeds and all(thing.count(deed) == 1 for deed in range(deeds))


def deeds_of(given):
    return given["works"][0] if "works" in given else given["deeds"]


def none_or(holds, error):
    return None if holds else error


def bad_wish(given, thing):
    part = told_wish(deeds_of(given), thing)
    return None if part is None else ("BadWish", part)


def bad_saying(given, thing):
    path = told_saying(deeds_of(given), thing)
    return None if path is None else ("BadWish", path)


def bad_other(given, thing):
    return told_works(thing) or none_or(thing[0] == given["works"][0], OUT)


def bad_posts(given, thing):
    part = told_posts(given["works"], thing)
    return None if part is None else ("BadPost", part)


def bad_wire(given, thing):
    part = told_wire(given["works"], thing)
    return None if part is None else ("BadWire", part)


def bad_less(given, thing):
    error = bad_wire(given, thing)
    wire = given["wire"]
    return error or none_or(thing[0] == wire[0] and thing[1] <= wire[1] and thing[2] <= wire[2], OUT)


def bad_log(given, thing):
    part = told_log(deeds_of(given), thing)
    return None if part is None else ("BadLog", part)


def bad_plain_log(given, thing):
    return bad_log(given, thing) or none_or(all(len(entry[0]) == deeds_of(given) and entry[1] == 0 for entry in thing), OUT)


def is_course(given, thing):
    return told_tuple(thing, 0, 400) and told_course(given["works"], given["wire"], thing) is not None


def is_news(given, thing):
    return told_row(thing, deeds_of(given), 0, 400) and told_may_be(given["works"], given["wire"], thing) != ()


def is_start(given, thing):
    return told_row(thing, deeds_of(given)) and thing in told_starts(given["log"])


def told_thing(thing):
    """Whether one of the things that are passed here is a THING."""
    if type(thing) is tuple:
        return all(told_thing(part) for part in thing)
    if type(thing) is str:
        return thing.isalpha()
    return thing is None or type(thing) is bool or type(thing) is int and abs(thing) < 10 ** 31


def is_case(thing):
    return told_tuple(thing, 3, 3) and thing[0] == "same" and told_tuple(thing[1], 3, 3)


# For each kind of argument: the error that is due, or None, by the arguments ahead of it and a thing.
KINDS = {
    "works": lambda given, thing: told_works(thing),
    "other": bad_other,
    "place": lambda given, thing: none_or(told_is_place(given["works"], thing), OUT),
    "run": lambda given, thing: none_or(told_run(given["works"], thing), OUT),
    "deed": lambda given, thing: none_or(told_int(thing, 0, given["works"][0] - 1), OUT),
    "length": lambda given, thing: none_or(told_int(thing, 0, 40), OUT),
    "plan": lambda given, thing: told_plan(thing),
    "free": lambda given, thing: none_or(told_lot(thing, given["thing"][0]), OUT),
    "names": lambda given, thing: none_or(told_names(deeds_of(given), thing), OUT),
    "deeds": lambda given, thing: none_or(told_int(thing, 1, 6), OUT),
    "row": lambda given, thing: none_or(told_row(thing, deeds_of(given), 0, 400), OUT),
    "wish": bad_wish,
    "saying": bad_saying,
    "sight": lambda given, thing: none_or(told_lot(thing, deeds_of(given)), OUT),
    "look": lambda given, thing: none_or(told_row(thing, deeds_of(given), 0, 400), OUT),
    "posts": bad_posts,
    "number": lambda given, thing: none_or(told_int(thing, 0, len(given["posts"]) - 1), OUT),
    "team": lambda given, thing: none_or(told_is_team(given["posts"], thing), OUT),
    "faults": lambda given, thing: none_or(told_lot(thing, deeds_of(given)) and thing != (), OUT),
    "prices": lambda given, thing: none_or(told_tuple(thing, deeds_of(given), deeds_of(given))
                                           and all(told_int(price, 0, 9) for price in thing), OUT),
    "wire": bad_wire,
    "less": bad_less,
    "course": lambda given, thing: none_or(is_course(given, thing), OUT),
    "news": lambda given, thing: none_or(is_news(given, thing), OUT),
    "sight of a wire": lambda given, thing: none_or(told_lot(thing, deeds_of(given)) and len(thing) <= 3, OUT),
    "total": lambda given, thing: none_or(told_int(thing, 0, 10 ** 1000), OUT),
    "log": bad_log,
    "plain log": bad_plain_log,
    "entry": lambda given, thing: none_or(told_int(thing, 0, len(given["log"]) - 1), OUT),
    "start": lambda given, thing: none_or(is_start(given, thing), OUT),
    "case": lambda given, thing: none_or(is_case(thing), OUT),
    "book": lambda given, thing: none_or(told_tuple(thing, 0, 12) and all(is_case(case) for case in thing), OUT),
    "string": lambda given, thing: none_or(type(thing) is str, ("BadText", 0)),
    "whatever": lambda given, thing: None,
    "thing": lambda given, thing: none_or(told_thing(thing), OUT),
    "wire at once": lambda given, thing: bad_wire(given, thing) or none_or(thing[1:] == (0, 0), OUT),
    "paper": lambda given, thing: ("BadPaper", "form"),
    "any": lambda given, thing: None,
}

WORKS_WISH = (("works", "works"), ("wish", "wish"))
WORKS_PLACE = (("works", "works"), ("place", "place"))
WORKS_OTHER = (("works", "works"), ("other", "other"))
TEAMED = (("works", "works"), ("posts", "posts"), ("team", "team"))
WITHIN = (("works", "works"), ("wish", "wish"), ("posts", "posts"), ("team", "team"))
FAULTY = (("works", "works"), ("faults", "faults"))
WATCHED = FAULTY + (("sight", "sight"),)
PRICED = WORKS_WISH + (("prices", "prices"), ("paper", "paper"))
AIMED = (("works", "works"), ("sight", "sight"))
SEEN = WORKS_WISH + (("sight", "sight"),)
POSTED = WORKS_WISH + (("posts", "posts"),)
DEEDS_BOTH = (("deeds", "deeds"), ("wish", "wish"), ("other", "wish"))
FOLLOW = WORKS_WISH + (("other", "wish"),)

WIRED = (("works", "works"), ("wire", "wire"))
KEPT_OVER = WORKS_WISH + (("wire", "wire"),)
LOGGED = WORKS_WISH + (("log", "log"),)
DEEDS_LOG = (("deeds", "deeds"), ("log", "log"))
STARTS = (("deeds", "deeds"), ("log", "plain log"))

# Module, function, names and kinds of its arguments, and arguments that are right.
CALLS = [
    ("works", "need_works", (("thing", "works"),), (RING,)),
    ("works", "doable", WORKS_PLACE, (RING, (2,))),
    ("works", "behind", WORKS_PLACE + (("deed", "deed"),), (RING, (2,), 1)),
    ("works", "place_of", (("works", "works"), ("run", "run")), (RING, (0, 0, 1))),
    ("works", "is_run", (("works", "works"), ("value", "any")), (RING, (0, 0, 1))),
    ("works", "is_goal", WORKS_PLACE, (RING, (2,))),
    ("works", "places", (("works", "works"),), (CUBE,)),
    ("goings", "first_run", WORKS_PLACE, (RING, (2,))),
    ("goings", "many_runs", (("works", "works"), ("length", "length")), (RING, 4)),
    ("goings", "still_places", (("works", "works"),), (TRAP,)),
    ("goings", "lost_places", (("works", "works"),), (TRAP,)),
    ("goings", "do_go_on", (("works", "works"),), (TRAP,)),
    ("alikes", "are_alike", WORKS_OTHER, (TRAP, CUBE)),
    ("alikes", "alike_paper", WORKS_OTHER, (TRAP, CUBE)),
    ("alikes", "parting", WORKS_OTHER, (TRAP, CUBE)),
    ("alikepapers", "check_alike", WORKS_OTHER + (("paper", "paper"),), (TRAP, CUBE, ("unlike", ()))),
    ("plans", "plan", (("works", "works"),), (SHARED,)),
    ("plans", "least_plan", (("works", "works"),), (SHARED,)),
    ("plans", "works_of", (("thing", "plan"), ("free", "free")), ((2, (((0, 1),), ()), (1,)), (1,))),
    ("plans", "together", WORKS_OTHER, (TRAP, (3, (((), ((),)),), (), ((0,),)))),
    ("plans", "renamed", (("works", "works"), ("names", "names")), (TRAP, (2, 0, 1))),
    ("wishes", "need_wish", (("deeds", "deeds"), ("thing", "wish")), (2, TWO)),
    ("wishes", "state_of", (("deeds", "deeds"), ("wish", "wish"), ("row", "row")), (2, TWO, (0, 1))),
    ("wishes", "is_wished", (("deeds", "deeds"), ("wish", "wish"), ("value", "any")), (2, TWO, (0, 1))),
    ("wishes", "least_wish", (("deeds", "deeds"), ("wish", "wish")), (2, TWO)),
    ("wishes", "meet", DEEDS_BOTH, (2, TWO, TWO_MORE)),
    ("wishes", "join", DEEDS_BOTH, (2, TWO, TWO_MORE)),
    ("wishes", "wish_renamed", (("deeds", "deeds"), ("wish", "wish"), ("names", "names")), (2, TWO, (1, 0))),
    ("wishes", "standings", WORKS_WISH, (RING, TWO)),
    ("wishes", "first_unwished", WORKS_WISH, (RING, TWO_MORE)),
    ("wishes", "do_keep", WORKS_WISH, (RING, TWO)),
    ("wishpapers", "check_follow", FOLLOW + (("paper", "paper"),), (RING, TWO_MORE, TWO, ("not", (0, 0, 1)))),
    ("wishpapers", "check_same", DEEDS_BOTH + (("paper", "paper"),), (2, TWO, TWO_MORE, ("unlike", (0, 1)))),
    ("follows", "does_follow", FOLLOW, (RING, TWO, TWO_MORE)),
    ("follows", "follow_paper", FOLLOW, (RING, TWO, TWO_MORE)),
    ("follows", "are_same", DEEDS_BOTH, (2, TWO, TWO_MORE)),
    ("follows", "same_paper", DEEDS_BOTH, (2, TWO, TWO_MORE)),
    ("follows", "parting_row", DEEDS_BOTH, (2, TWO, TWO_MORE)),
    ("sayings", "need_saying", (("deeds", "deeds"), ("thing", "saying")), (2, SAYING)),
    ("sayings", "does_hold", (("deeds", "deeds"), ("saying", "saying"), ("row", "row")), (2, SAYING, (0, 1, 1))),
    ("sayings", "wish_of", (("deeds", "deeds"), ("saying", "saying")), (2, SAYING)),
    ("keepingpapers", "check_keeping", WORKS_WISH + (("paper", "paper"),),
     (SHUT, THREE,
      ("lost", (("still", (((1,), 0),)), ("free", ((((0,), 0), 1),)))))),
    ("keeping", "both_pairs", WORKS_WISH, (TRAP, THREE)),
    ("keeping", "can_keep", WORKS_WISH, (TRAP, THREE)),
    ("keeping", "keeping_paper", WORKS_WISH, (SHUT, THREE)),
    ("keeping", "greatest_part", WORKS_WISH, (RING, TWO)),
    ("keeping", "is_let", WORKS_WISH + (("value", "any"),), (RING, TWO, (0,))),
    ("keeping", "let_deeds", WORKS_WISH + (("run", "run"),), (RING, TWO, (0,))),
    ("keeping", "kept_plan", WORKS_WISH, (RING, TWO)),
    ("exactpapers", "check_exact", WORKS_WISH + (("paper", "paper"),), (RING, TWO_MORE, ("out", (0, 0), 1))),
    ("exacts", "is_exact", WORKS_WISH, (RING, TWO_MORE)),
    ("exacts", "exact_paper", WORKS_WISH, (RING, TWO_MORE)),
    ("exacts", "is_wider", WORKS_WISH + (("value", "any"),), (RING, TWO_MORE, (0, 0, 1))),
    ("sights", "look_of", (("works", "works"), ("sight", "sight"), ("run", "run")), (RING, (1,), (0, 0, 1))),
    ("sights", "estimate", SEEN + (("look", "look"),), (RING, TWO, (1,), (1,))),
    ("sightkeeps", "can_keep_by", SEEN, (FORK, ONE_WAY, (1,))),
    ("sightkeeps", "sight_paper", SEEN, (FORK, ONE_WAY, (1,))),
    ("sightkeeps", "least_order", SEEN + (("look", "look"),), (FORK, ONE_WAY, (1,), (1,))),
    ("sightkeeps", "least_sights", WORKS_WISH, (FORK, ONE_WAY)),
    ("sightkeeppapers", "check_sight", SEEN + (("paper", "paper"),), (FORK, ONE_WAY, (0,), ("alike", (0,), (0, 2, 1), 2))),
    ("normals", "has_normal", SEEN, (FORK, ONE_WAY, (1,))),
    ("normals", "in_normal", SEEN + (("run", "run"),), (FORK, ONE_WAY, (1,), (0, 2))),
    ("normals", "normal_order", SEEN + (("look", "look"),), (FORK, ONE_WAY, (0, 1, 2), (0, 2))),
    ("normals", "normal_runs", SEEN + (("length", "length"),), (FORK, ONE_WAY, (0, 1, 2), 5)),
    ("normals", "normal_paper", SEEN, (FORK, ONE_WAY, (0, 1))),
    ("normalpapers", "check_normal", SEEN + (("paper", "paper"),),
     (FORK, ONE_WAY, (), ("normal", (), ((((((0,), 0), ((1,), 1), ((2,), 0)), True), 0, None),)))),
    ("aims", "can_bring", AIMED, (RING, (0,))),
    ("aims", "seen_at_most", AIMED, (RING, (0,))),
    ("aims", "aim_paper", AIMED, (RING, (0,))),
    ("aimpapers", "check_aim", AIMED + (("paper", "paper"),), (RING, (), ("brought", ((((0,),), 0, ()),)))),
    ("posts", "need_posts", (("works", "works"), ("thing", "posts")), (FORK, POSTS)),
    ("posts", "can_post", POSTED, (FORK, ONE_WAY, POSTS)),
    ("posts", "post_paper", POSTED, (FORK, ONE_WAY, POSTS)),
    ("posts", "sure_order", POSTED + (("number", "number"), ("look", "look")), (FORK, ONE_WAY, POSTS, 0, (1,))),
    ("posts", "team_of", POSTED, (FORK, ONE_WAY, POSTS)),
    ("postpapers", "check_posts", POSTED + (("paper", "paper"),),
     (FORK, ONE_WAY, (((0,), (2,)), ((0,), (0,))), ("lost", (0, 2, 1, 2), ((0,), None)))),
    ("teams", "need_team", TEAMED[:2] + (("thing", "team"),), (FORK, POSTS, TEAM)),
    ("teams", "does_pass", TEAMED + (("run", "run"),), (FORK, POSTS, TEAM, (0, 2, 1))),
    ("teams", "keeps_within", WITHIN, (FORK, ONE_WAY, POSTS, TEAM)),
    ("teams", "within_paper", WITHIN, (FORK, ONE_WAY, POSTS, TEAM)),
    ("teams", "does_bring", TEAMED, (FORK, POSTS, TEAM)),
    ("teams", "bring_paper", TEAMED, (FORK[:3] + (((2,),),), POSTS, TEAM)),
    ("teampapers", "check_within", WITHIN + (("paper", "paper"),),
     (FORK, ONE_WAY, POSTS, ((((), (0,)),), (((), (0,)),)), ("out", (1, 2)))),
    ("teampapers", "check_bring", TEAMED + (("paper", "paper"),),
     (FORK[:3] + (((2,),),), POSTS, TEAM, ("round", (), (0, 2)))),
    ("faults", "is_faulty", FAULTY + (("run", "run"),), (FORK, (1,), (0, 2, 1))),
    ("faults", "least_told", WATCHED, (FORK, (1,), (0, 2))),
    ("faults", "told_paper", WATCHED, (FORK, (1,), (0, 2))),
    ("foresight", "doomed_places", FAULTY, (FORK, (2,))),
    ("foresight", "are_foreseen", WATCHED, (FORK, (2,), (0,))),
    ("foresight", "foreseen_paper", WATCHED, (FORK, (2,), (0,))),
    ("faultpapers", "check_told", WATCHED + (("paper", "paper"),),
     (FORK, (1,), (), ("never", (1,), (2, 1), (), ()))),
    ("faultpapers", "check_foreseen", WATCHED + (("paper", "paper"),), (FORK, (1,), (), ("late", (), (), (), (0, 2)))),
    ("secrets", "is_secret", WORKS_WISH + (("run", "run"),), (FORK, ONES, (1,))),
    ("secrets", "does_hide", SEEN, (FORK, ONES, (1,))),
    ("secrets", "guess", SEEN + (("look", "look"),), (FORK, ONES, (1,), (1,))),
    ("secrets", "secret_paper", SEEN, (FORK, ONES, (0, 1))),
    ("secrets", "greatest_masks", WORKS_WISH, (FORK, ONES)),
    ("secrets", "mask_paper", WORKS_WISH, (FORK, ONES)),
    ("secretpapers", "check_secret", SEEN + (("paper", "paper"),), (FORK, ONES, (0, 1), ("given", (1,)))),
    ("secretpapers", "check_masks", WORKS_WISH + (("paper", "paper"),),
     (RING, (((0, 0),), (0,)), ("masks", (((0, 1), ((((0,), 0),), (((1,), 0),), (((2,), 0),))),), ()))),
    ("costpapers", "check_mean", PRICED, (RING, (((0, 0),), (0,)), (1, 9), ("most", (9, 1), (
        (((0,), 0), (0,), 0), (((1,), 0), (0,), 0), (((2,), 0), (0, 1), 0))))),
    ("costpapers", "check_total", PRICED, (RING, (((0, 0),), (0,)), (1, 9), ("more", 1, ((((0,), 0), 2), (((1,), 0), 1))))),
    ("costs", "can_move", WORKS_WISH, (FORK, ONE_WAY)),
    ("costs", "mean_cost", PRICED[:3], (FORK, ONE_WAY, (1, 2, 4))),
    ("costs", "most_paper", PRICED[:3], (FORK, ONE_WAY, (1, 2, 4))),
    ("costs", "least_paper", PRICED[:3], (FORK, ONE_WAY, (1, 2, 4))),
    ("totals", "least_total", PRICED[:3], (RING, TWO, (1, 9))),
    ("totals", "total_paper", PRICED[:3] + (("total", "total"),), (RING, TWO, (1, 9), 1)),
    ("wires", "need_wire", (("works", "works"), ("thing", "wire")), (RING, WIRE)),
    ("wires", "is_course", WIRED + (("value", "any"),), (RING, WIRE, COURSE)),
    ("wires", "run_of", WIRED + (("course", "course"),), (RING, WIRE, COURSE)),
    ("wires", "news_of", WIRED + (("course", "course"),), (RING, WIRE, COURSE)),
    ("wires", "may_be", WIRED + (("news", "news"),), (RING, WIRE, (0,))),
    ("wires", "spans", KEPT_OVER, (RING, TWO, ((0,), 1, 1))),
    ("wirekeeps", "can_keep_over", KEPT_OVER, (RING, TWO, WIRE)),
    ("wirekeeps", "wire_paper", KEPT_OVER, (RING, TWO, ((0,), 1, 1))),
    ("wirekeeps", "keeping_wires", WORKS_WISH + (("sight", "sight of a wire"),), (FORK, ONE_WAY, (1,))),
    ("wirekeeps", "paper_for_less", KEPT_OVER + (("less", "less"), ("paper", "paper")),
     (SHUT[:3] + (((),),), (((0, 0, 0),), (0,)), ((), 1, 0), ((), 0, 0), ("kept", (
         (((0,), 0, (), 0), ((0,), 0, (), 0)), (((0,), 0, (), 0), ((1,), 0, (), 0)),
         (((1,), 0, (), 0), ((0,), 0, (), 0)), (((1,), 0, (), 0), ((1,), 0, (), 0)))))),
    ("wirekeeps", "paper_for_sight", (("works", "works"), ("wish", "wish"), ("wire", "wire at once"), ("paper", "paper")),
     (SHUT[:3] + (((),),), (((0, 0, 0),), (0,)), ((0, 1), 0, 0), ("kept", (
         (((0,), 0, (), 0), ((0,), 0, (), 0)), (((1,), 0, (), 0), ((1,), 0, (), 0)))))),
    ("wirepapers", "check_wire", KEPT_OVER + (("paper", "paper"),),
     (RING, (((1, 0), (1, 2), (2, 2)), (0, 1)), ((0,), 0, 0), ("free", (0, 0, 1)))),
    ("logs", "need_log", (("deeds", "deeds"), ("thing", "log")), (2, LOG)),
    ("logs", "does_show", DEEDS_LOG + (("number", "entry"), ("row", "row")), (2, LOG, 0, (0, 0, 1))),
    ("logfits", "do_fit", LOGGED, (RING, TWO, LOG)),
    ("logfits", "shown_by", LOGGED + (("number", "entry"),), (RING, TWO, LOG, 0)),
    ("logfits", "fit_paper", LOGGED, (RING, TWO, LOG)),
    ("logpapers", "check_fit", LOGGED + (("paper", "paper"),), (RING, TWO, LOG, ("fails", 1, ()))),
    ("leastlogs", "least_log_plan", DEEDS_LOG, (2, PLAIN)),
    ("leastlogs", "parted_lot", STARTS, (2, PLAIN)),
    ("leastlogs", "are_parted", STARTS + (("one", "start"), ("other", "start")), (2, PLAIN, (), (0,))),
    ("marks", "tests_of", (("deeds", "deeds"), ("row", "row")), (2, (0, 1))),
    ("marks", "are_told", DEEDS_LOG, (2, LOG)),
    ("marks", "mark_paper", DEEDS_LOG, (2, LOG)),
    ("marks", "fewest_tests", DEEDS_LOG, (2, LOG)),
    ("markpapers", "check_marks", DEEDS_LOG + (("paper", "paper"),), (2, LOG, ("told", (("ends", (1,)),)))),
    ("things", "is_thing", (("value", "whatever"),), (CASE,)),
    ("things", "thing_text", (("thing", "thing"),), (CASE,)),
    ("things", "read_thing", (("string", "string"),), ("(a (0 -1) . +)",)),
    ("casebook", "need_case", (("thing", "case"),), (CASE,)),
    ("casebook", "judge", (("case", "case"),), (CASE,)),
    ("casebook", "judged", (("book", "book"),), ((CASE, CASE[:2] + (None,)),)),
    ("booktexts", "case_text", (("case", "case"),), (CASE,)),
    ("booktexts", "read_case", (("string", "string"),), ("(same (0 0 0) 0)",)),
    ("booktexts", "book_text", (("book", "book"),), ((CASE,),)),
    ("booktexts", "read_book", (("string", "string"),), ("(same (0 0 0) 0)\n(same (0 0 0) 1)",)),
]


def function_of(call):
    return getattr(importlib.import_module("worksward." + call[0]), call[1])


def given_of(call, args):
    return dict(zip([name for name, _ in call[2]], args))


def due_error(call, args):
    """The first error that is due for the arguments, from left to right, or None."""
    given = given_of(call, args)
    for name, kind in call[2]:
        error = KINDS[kind](given, given[name])
        if error is not None:
            return error
    return None


def wrong_things(call, place):
    """Wrong things for one argument, the others being right, each with the error that is due."""
    args = call[3]
    kind = call[2][place][1]
    things = junk() + [MANY, SIX, CUBE, TWO, THREE, (0,) * 401, ((0, 0, 1),)]
    if kind in ("works", "other", "wish", "plan", "place", "names", "saying", "posts", "team", "wire", "less", "course", "log", "plain log", "case"):
        things += mutations(args[place], chance_of(place), 60)
    found = []
    for thing in things:
        if kind == "paper" and type(thing) is tuple and thing[:1] == ("kept",):
            continue
        error = KINDS[kind](given_of(call, args), thing)
        if error is not None:
            found.append((thing, error))
    return found


class Arguments(unittest.TestCase):
    def test_each_function_stands_in_its_file_with_its_names(self):
        for call in CALLS:
            function = function_of(call)
            self.assertTrue(inspect.isfunction(function), call[:2])
            self.assertEqual(function.__module__, "worksward." + call[0])
            self.assertEqual(function.__name__, call[1])
            told = inspect.signature(function).parameters
            self.assertEqual(tuple(told), tuple(name for name, _ in call[2]), call[:2])
            for parameter in told.values():
                self.assertEqual(parameter.kind, parameter.POSITIONAL_OR_KEYWORD)
                self.assertIs(parameter.default, parameter.empty)

    def test_by_position_and_by_name_in_any_order(self):
        for call in CALLS:
            function = function_of(call)
            first = function(*call[3])
            given = given_of(call, call[3])
            for names in itertools.permutations(given):
                again = function(**{name: given[name] for name in names})
                self.assertTrue(same_kind(first, again), call[:2])

    def test_arguments_stay_and_equal_calls_answer_alike(self):
        for call in CALLS:
            function = function_of(call)
            kept = copy.deepcopy(call[3])
            first = function(*call[3])
            self.assertTrue(same_kind(call[3], kept), call[:2])
            self.assertTrue(same_kind(function(*kept), first), call[:2])
            self.assertTrue(same_kind(function(*call[3]), first), call[:2])

    def test_results_are_plain(self):
        def are_plain(thing):
            if type(thing) is tuple:
                return all(are_plain(part) for part in thing)
            return thing is None or type(thing) in (int, bool, str)
        for call in CALLS:
            self.assertTrue(are_plain(function_of(call)(*call[3])), call[:2])

    def test_each_wrong_argument_alone(self):
        for call in CALLS:
            function = function_of(call)
            for place in range(len(call[3])):
                for thing, error in wrong_things(call, place):
                    args = call[3][:place] + (thing,) + call[3][place + 1:]
                    self.assertEqual(outcome(function, *args), error, (call[:2], place, thing))
                    given = given_of(call, args)
                    turned = {name: given[name] for name in list(given)[::-1]}
                    self.assertEqual(outcome(function, **turned), error, (call[:2], place, thing))

    def test_of_several_wrong_arguments_the_first_one_counts(self):
        for call in CALLS:
            function = function_of(call)
            chance = chance_of(3)
            for one, two in itertools.combinations(range(len(call[3])), 2):
                wrong = [wrong_things(call, one), wrong_things(call, two)]
                if not wrong[0] or not wrong[1]:
                    continue
                for _ in range(40):
                    first, error = chance.choice(wrong[0])
                    second, _ = chance.choice(wrong[1])
                    args = list(call[3])
                    args[one], args[two] = first, second
                    self.assertEqual(outcome(function, *args), error, (call[:2], args))

    def test_all_arguments_wrong(self):
        for call in CALLS:
            for thing in (None, [], True, Odd, "form"):
                error = due_error((*call[:2], call[2][:1], None), (thing,))
                if error is None:
                    continue
                self.assertEqual(outcome(function_of(call), *[thing for _ in call[3]]), error, call[:2])

    def test_too_many_places_come_ahead_of_what_stands_behind(self):
        for call in CALLS:
            if call[2][0][1] != "works":
                continue
            function = function_of(call)
            behind = [None for _ in call[3][1:]]
            for works in (MANY, MORE32, PAIR32, WIDE27):
                self.assertEqual(outcome(function, works, *behind), ("TooMany", 24), call[:2])
                self.assertEqual(outcome(function, works, *call[3][1:]), ("TooMany", 24), call[:2])
            for works in (JUST24, BOUND24, PAIR24):
                error = due_error(call, (works, *behind))
                if error is not None:
                    self.assertEqual(outcome(function, works, *behind), error, call[:2])

    def test_other_works_with_too_many_places(self):
        for call in CALLS:
            if ("other", "other") in call[2]:
                for works in (MANY, MORE32, PAIR32, WIDE27):
                    args = (call[3][0], works, *call[3][2:])
                    self.assertEqual(outcome(function_of(call), *args), ("TooMany", 24), call[:2])

    def test_any_value_is_answered(self):
        calls = [call for call in CALLS if call[2][-1][1] == "any"]
        self.assertEqual(len(calls), 5)
        for call in calls:
            function = function_of(call)
            for thing in junk() + [list(call[3][-1]), RING, (0, True), (0, 0.0), ((0,),), (0, None), (1.0,), {0, 1}, "01"]:
                if type(thing) is tuple and told_row(thing, 2):
                    continue
                self.assertIs(function(*call[3][:-1], thing), False, (call[:2], thing))
            self.assertIs(function(*call[3]), True, call[:2])

    def test_lists_that_are_passed_stay_as_they_are(self):
        for call in CALLS:
            for place in range(len(call[3])):
                things = [[0, [1]], ([0], [1]), ([(0,)],)]
                kept = copy.deepcopy(things)
                for thing in things:
                    outcome(function_of(call), *call[3][:place], thing, *call[3][place + 1:])
                self.assertEqual(things, kept)


class Form(unittest.TestCase):
    """That the package is one of plain files, without what the language of the program does not have."""

    def files(self):
        folder = os.path.dirname(importlib.import_module("worksward").__file__)
        return [os.path.join(folder, name) for name in sorted(os.listdir(folder)) if name != "__pycache__"]

    def test_files(self):
        for path in self.files():
            with open(path, encoding="ascii") as file:
                text = file.read()
            self.assertTrue(path.endswith(".py"))
            self.assertNotIn("\t", text)
            self.assertLess(text.count("\n"), 400)
            self.assertTrue(all(len(line) <= 120 for line in text.split("\n")), path)
            for node in ast.walk(ast.parse(text)):
                if isinstance(node, ast.FunctionDef):
                    self.assertLessEqual(node.end_lineno - node.lineno, 39, node.name)
                self.assertNotIsInstance(node, ast.Import)
                if isinstance(node, ast.ImportFrom):
                    self.assertTrue(node.module.startswith("worksward.") or node.module in ("math", "heapq"), path)


if __name__ == "__main__":
    unittest.main()
