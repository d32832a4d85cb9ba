"""WORKS: machines put together, their places, and the deeds that can be done there."""

from worksward.basics import is_below, is_list_by, is_lot, is_number, is_tuple, is_tuple_of, spread, walk
from worksward.errors import BadWorks, OutOfPlace, TooMany


def is_rows(has, rows):
    """Whether it is a tuple of 1 to 4 rows of deeds that are had, and the states to which they lead."""
    if not is_tuple_of(1, 4, rows):
        return False
    return all([_is_steps(has, len(rows), steps) for steps in rows])


def _is_steps(has, many, steps):
    if not is_list_by(is_number, steps):
        return False
    return all([deed in has and is_below(many, state) for deed, state in steps])


def _is_machine(deeds, machine):
    if not is_tuple(2, machine):
        return False
    has, rows = machine
    return is_lot(deeds, has) and is_rows(has, rows)


def _are_goals(machines, goals):
    if not is_tuple(len(machines), goals):
        return False
    return all([is_lot(len(rows), lot) for (_, rows), lot in zip(machines, goals)])


def need_works(thing):
    """The thing itself; refuses what is not WORKS, and WORKS with too many places."""
    if not is_tuple(4, thing):
        raise BadWorks("form")
    deeds, machines, free, goals = thing
    if not is_number(deeds) or not 1 <= deeds <= 6:
        raise BadWorks("deeds")
    if not is_tuple_of(1, 3, machines):
        raise BadWorks("machines")
    for number, machine in enumerate(machines):
        if not _is_machine(deeds, machine):
            raise BadWorks(number)
    if not is_lot(deeds, free):
        raise BadWorks("free")
    if not _are_goals(machines, goals):
        raise BadWorks("goals")
    return need_few_places(thing)


def need_few_places(works):
    """The WORKS themselves; refuses such of which more than 24 places come."""
    if len(place_table(works)) > 24:
        raise TooMany(24)
    return works


def need_other(works, other):
    """Refuses what is not WORKS with as many deeds."""
    need_works(other)
    if other[0] != works[0]:
        raise OutOfPlace("other has not as many deeds")


def is_place(works, value):
    """Whether any value is a place, perhaps one that does not come."""
    if not is_tuple(len(works[1]), value):
        return False
    return all([is_below(len(rows), state) for (_, rows), state in zip(works[1], value)])


def need_place(works, place):
    """Refuses what is no place."""
    if not is_place(works, place):
        raise OutOfPlace("not a place of the works")


def need_run(works, run):
    """Refuses what is no RUN of at most 400 deeds."""
    if not is_tuple_of(0, 400, run) or walk(place_table(works), first_place(works), run) is None:
        raise OutOfPlace("not a run of at most 400 deeds")


def first_place(works):
    """The place behind ()."""
    return (0,) * len(works[1])


def place_behind(works, place, deed):
    """The place behind a deed, or None if it cannot be done."""
    states = list(place)
    is_had = False
    for number, (has, rows) in enumerate(works[1]):
        if deed in has:
            is_had = True
            steps = dict(rows[place[number]])
            if deed not in steps:
                return None
            states[number] = steps[deed]
    return tuple(states) if is_had else None


def steps_at(works, place):
    """A dict of the deeds that can be done at a place, ascending, with the places behind them."""
    steps = {}
    for deed in range(works[0]):
        target = place_behind(works, place, deed)
        if target is not None:
            steps[deed] = target
    return steps


def place_table(works):
    """The table of steps of the places that come."""
    def steps_of(place):
        return steps_at(works, place)
    return spread(first_place(works), steps_of)


def has_goal(works, place):
    """Whether a place of the WORKS is a GOAL."""
    return all([state in lot for state, lot in zip(place, works[3])])


def goals_among(works, table):
    """A dict of the places of a table that are GOALS."""
    return {place: True for place in table if has_goal(works, place)}


def doable(works, place):
    """The ascending tuple of the deeds that can be done at a place."""
    need_works(works)
    need_place(works, place)
    return tuple(steps_at(works, place))


def behind(works, place, deed):
    """The place behind a deed that can be done at a place."""
    need_works(works)
    need_place(works, place)
    if not is_below(works[0], deed):
        raise OutOfPlace("not a deed of the works")
    target = place_behind(works, place, deed)
    if target is None:
        raise OutOfPlace("the deed cannot be done at this place")
    return target


def place_of(works, run):
    """The place of a RUN."""
    need_works(works)
    need_run(works, run)
    return walk(place_table(works), first_place(works), run)


def is_run(works, value):
    """Whether any value is a RUN, however long."""
    need_works(works)
    return walk(place_table(works), first_place(works), value) is not None


def is_goal(works, place):
    """Whether a place is a GOAL."""
    need_works(works)
    need_place(works, place)
    return has_goal(works, place)


def places(works):
    """The ascending tuple of the places that come."""
    need_works(works)
    return tuple(sorted(place_table(works)))
