"""WORKS: machines put together, their places, and the deeds that can be done there."""

from worksward.basics import is_below, is_lot, is_number, spread, walk, walk_far
from worksward.errors import BadWorks, OutOfPlace, TooMany


def is_rows(has, rows):
    """Whether it is a tuple of 1 to 4 rows of deeds that are had, and the states to which they lead."""
    if not isinstance(rows, tuple) or not 1 <= len(rows) <= 4:
        return False
    many = len(rows)
    for steps in rows:
        if not isinstance(steps, tuple):
            return False
        least = 0
        for step in steps:
            if not isinstance(step, tuple) or len(step) != 2:
                return False
            deed, state = step
            if not isinstance(deed, int) or deed is True or deed is False or deed < least or deed not in has:
                return False
            if not isinstance(state, int) or state is True or state is False or not 0 <= state < many:
                return False
            least = deed + 1
    return True


def _is_machine(deeds, machine):
    if not isinstance(machine, tuple) or len(machine) != 2:
        return False
    has, rows = machine
    return is_lot(deeds, has) and is_rows(has, rows)


def _are_goals(machines, goals):
    if not isinstance(goals, tuple) or len(goals) != len(machines):
        return False
    for machine, lot in zip(machines, goals):
        if not is_lot(len(machine[1]), lot):
            return False
    return True


def need_works(thing):
    """The thing itself; refuses what is not WORKS, and WORKS with too many places."""
    if not isinstance(thing, tuple) or len(thing) != 4:
        raise BadWorks("form")
    deeds, machines, free, goals = thing
    if not is_number(deeds) or not 1 <= deeds <= 6:
        raise BadWorks("deeds")
    if not isinstance(machines, tuple) or not 1 <= len(machines) <= 3:
        raise BadWorks("machines")
    for number, machine in enumerate(machines):
        if not _is_machine(deeds, machine):
            raise BadWorks(number)
    if not is_lot(deeds, free):
        raise BadWorks("free")
    if not _are_goals(machines, goals):
        raise BadWorks("goals")
    return need_few_places(thing)


def need_few_places(works):
    """The WORKS themselves; refuses such of which more than 24 places come."""
    most = 1
    for _, rows in works[1]:
        most *= len(rows)
    # No more places can come than the numbers of states, multiplied, are.
    if most > 24 and _many_places(works) > 24:
        raise TooMany(24)
    return works


def _many_places(works):
    """How many places come, of WORKS of three MACHINES; 25 or more of them need not be counted on."""
    many = 1
    bound = []
    for number, (has, rows) in enumerate(works[1]):
        others = works[1][:number] + works[1][number + 1:]
        if any([deed in other for deed in has for other, _ in others]):
            bound.append((has, rows))
        else:
            # A MACHINE that shares no deed goes on whatever the others do.
            many *= _many_states(rows)
    if len(bound) > 0:
        many *= _many_joint_places((works[0], tuple(bound), (), ()))
    return many


def _many_states(rows):
    """How many states of a MACHINE come if it is alone."""
    known = {0: True}
    waiting = [0]
    while len(waiting) > 0:
        at = waiting.pop()
        for _, state in rows[at]:
            if state not in known:
                known[state] = True
                waiting.append(state)
    return len(known)


def _many_joint_places(works):
    """How many places come, as far as the 25th."""
    movers = _number_movers(works)
    known = {0: True}
    waiting = [0]
    while len(waiting) > 0 and len(known) <= 24:
        place = waiting.pop()
        for owners in movers:
            target = place
            for shift, changes in owners:
                change = changes[place >> shift & 3]
                if change is None:
                    break
                target += change
            else:
                if target not in known:
                    known[target] = True
                    waiting.append(target)
    return len(known)


def _number_movers(works):
    """What deeds change in a place that is written as a number, two bits for each MACHINE: numbers are met faster.

    For each deed that MACHINES have: the place of their bits, and for each state what is added, or None.
    """
    movers = [[] for _ in range(works[0])]
    for number, (has, rows) in enumerate(works[1]):
        shift = 2 * number
        changes = {deed: [None] * len(rows) for deed in has}
        for state, steps in enumerate(rows):
            for deed, target in steps:
                changes[deed][state] = target - state << shift
        for deed in has:
            movers[deed].append((shift, changes[deed]))
    return [owners for owners in movers if len(owners) > 0]


def need_places(works, steps_at, most):
    """Refuses WORKS of which more than so many places come; steps_at gives their steps."""
    bound = 1
    for _, rows in works[1]:
        bound *= len(rows)
    if bound > most:
        spread(first_place(works), steps_at, most)


def need_other(works, other):
    """Refuses what is not WORKS with as many deeds."""
    need_works(other)
    if other[0] != works[0]:
        raise OutOfPlace("other has not as many deeds")


def is_place(works, value):
    """Whether any value is a place, perhaps one that does not come."""
    if not isinstance(value, tuple) or len(value) != len(works[1]):
        return False
    for machine, state in zip(works[1], value):
        if not is_below(len(machine[1]), state):
            return False
    return True


def need_place(works, place):
    """Refuses what is no place."""
    if not is_place(works, place):
        raise OutOfPlace("not a place of the works")


def need_run(works, run):
    """The place of a RUN; refuses what is no RUN of at most 400 deeds."""
    place = None
    if isinstance(run, tuple) and len(run) <= 400:
        place = walk(stepper(works), first_place(works), run)
    if place is None:
        raise OutOfPlace("not a run of at most 400 deeds")
    return place


def is_run_of(works, value):
    """Whether any value is a RUN of WORKS, however long."""
    if isinstance(value, tuple) and len(value) > 1000:
        return walk_far(place_table(works), value) is not None
    return walk(stepper(works), first_place(works), value) is not None


def first_place(works):
    """The place behind ()."""
    return (0,) * len(works[1])


def stepper(works):
    """A function that gives, for a place, a dict of the deeds that can be done there, with the places behind.

    The deeds ascend. It keeps what it gave; nothing may be changed in it.
    """
    if len(works[1]) == 1:
        return _lone_stepper(works[1][0][1])
    movers = _movers(works)
    known = {}

    def steps_at(place):
        if place in known:
            return known[place]
        steps = {}
        for deed, owners in movers:
            states = list(place)
            for number, rows in owners:
                state = rows[place[number]].get(deed)
                if state is None:
                    break
                states[number] = state
            else:
                steps[deed] = tuple(states)
        known[place] = steps
        return steps
    return steps_at


def _lone_stepper(rows):
    """The function of one MACHINE alone."""
    known = [{deed: (state,) for deed, state in steps} for steps in rows]

    def steps_at(place):
        return known[place[0]]
    return steps_at


def _movers(works):
    """For each deed that MACHINES have, ascending: the numbers of these, each with a dict of steps for each state."""
    movers = [[] for _ in range(works[0])]
    for number, (has, rows) in enumerate(works[1]):
        tables = [dict(steps) for steps in rows]
        for deed in has:
            movers[deed].append((number, tables))
    return [(deed, owners) for deed, owners in enumerate(movers) if len(owners) > 0]


def place_table(works):
    """The table of steps of the places that come."""
    return spread(first_place(works), stepper(works))


def has_goal(works, place):
    """Whether a place of the WORKS is a GOAL."""
    for state, lot in zip(place, works[3]):
        if state not in lot:
            return False
    return True


def goals_among(works, table):
    """A dict of the places of a table that are GOALS."""
    return {place: True for place in table if has_goal(works, place)}


def doable(works, place):
    """The ascending tuple of the deeds that can be done at a place."""
    need_works(works)
    need_place(works, place)
    return tuple(stepper(works)(place))


def behind(works, place, deed):
    """The place behind a deed that can be done at a place."""
    need_works(works)
    need_place(works, place)
    if not is_below(works[0], deed):
        raise OutOfPlace("not a deed of the works")
    target = stepper(works)(place).get(deed)
    if target is None:
        raise OutOfPlace("the deed cannot be done at this place")
    return target


def place_of(works, run):
    """The place of a RUN."""
    need_works(works)
    return need_run(works, run)


def is_run(works, value):
    """Whether any value is a RUN, however long."""
    need_works(works)
    return is_run_of(works, value)


def is_goal(works, place):
    """Whether a place is a GOAL."""
    need_works(works)
    need_place(works, place)
    return has_goal(works, place)


def places(works):
    """The ascending tuple of the places that come."""
    need_works(works)
    return tuple(sorted(place_table(works)))
