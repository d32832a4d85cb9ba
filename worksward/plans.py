"""PLANS of WORKS, and WORKS made of a PLAN, put together, and with other names."""

from worksward.basics import is_lot, is_number, is_tuple, merged, need_names, plan_of
from worksward.errors import OutOfPlace, TooMany
from worksward.works import goals_among, is_rows, need_few_places, need_other, need_works, place_table


def plan(works):
    """The PLAN of WORKS."""
    need_works(works)
    table = place_table(works)
    return plan_of(works[0], table, goals_among(works, table))


def least_plan(works):
    """The LEAST PLAN of WORKS."""
    need_works(works)
    table = place_table(works)
    goals = goals_among(works, table)
    least = merged(table, {place: place in goals for place in table})
    return plan_of(works[0], least, goals)


def works_of(thing, free):
    """The WORKS made of a PLAN with at most 4 numbers, with deeds that cannot be stopped."""
    if not _is_small_plan(thing):
        raise OutOfPlace("not a plan with at most 4 numbers")
    deeds, rows, goals = thing
    if not is_lot(deeds, free):
        raise OutOfPlace("free is not an ascending tuple of deeds")
    return (deeds, ((tuple(range(deeds)), rows),), free, (goals,))


def _is_small_plan(thing):
    if not is_tuple(3, thing):
        return False
    deeds, rows, goals = thing
    if not is_number(deeds) or not 1 <= deeds <= 6:
        return False
    return is_rows(tuple(range(deeds)), rows) and is_lot(len(rows), goals)


def together(works, other):
    """Two WORKS put together."""
    need_works(works)
    need_other(works, other)
    machines = works[1] + other[1]
    if len(machines) > 3:
        raise TooMany(3)
    free = tuple(sorted(set(list(works[2] + other[2]))))
    return need_few_places((works[0], machines, free, works[3] + other[3]))


def renamed(works, names):
    """WORKS with other names: each deed stands as the one at its place of names."""
    need_works(works)
    need_names(works[0], names)
    deeds, machines, free, goals = works
    return (deeds, tuple([_renamed_machine(machine, names) for machine in machines]), _renamed_lot(free, names), goals)


def _renamed_lot(lot, names):
    return tuple(sorted([names[deed] for deed in lot]))


def _renamed_machine(machine, names):
    has, rows = machine
    others = [tuple(sorted([(names[deed], state) for deed, state in steps])) for steps in rows]
    return (_renamed_lot(has, names), tuple(others))
