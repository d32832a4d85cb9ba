"""How WORKS go on: first RUNS, how many there are, places that are still or lost."""

from worksward.basics import first_rows, is_below, leading, many_rows
from worksward.errors import Nothing, OutOfPlace
from worksward.works import goals_among, need_place, need_works, place_table


def first_run(works, place):
    """The first RUN that has a place."""
    need_works(works)
    need_place(works, place)
    runs = first_rows(place_table(works))
    if place not in runs:
        raise Nothing("no run has this place")
    return runs[place]


def many_runs(works, length):
    """How many RUNS have so many deeds."""
    need_works(works)
    if not is_below(41, length):
        raise OutOfPlace("length is not an integer from 0 to 40")
    return many_rows(place_table(works), length)


def still_places(works):
    """The ascending tuple of the places that come, and at which nothing can be done."""
    need_works(works)
    return tuple(sorted([place for place, steps in place_table(works).items() if len(steps) == 0]))


def lost_places(works):
    """The ascending tuple of the places that come, and from which no GOAL comes."""
    need_works(works)
    table = place_table(works)
    led = leading(table, goals_among(works, table))
    return tuple(sorted([place for place in table if place not in led]))


def do_go_on(works):
    """Whether no place that comes is lost."""
    return len(lost_places(works)) == 0
