"""WISHES: which rows are wished, LEAST WISHES, MEET and JOIN, and what WORKS keep."""

from worksward.basics import (
    first_out, is_lot, is_number, merged, need_deeds, need_names, need_row, spread,
)
from worksward.errors import BadWish, TooMany
from worksward.works import first_place, is_place, need_works, stepper


def need_wish(deeds, thing):
    """The thing itself; refuses what is no WISH for so many deeds."""
    need_deeds(deeds)
    if not isinstance(thing, tuple) or len(thing) != 2:
        raise BadWish("form")
    steps, good = thing
    if not isinstance(steps, tuple) or not 1 <= len(steps) <= 6 or not _are_steps(deeds, steps):
        raise BadWish("steps")
    if not is_lot(len(steps), good) or 0 not in good:
        raise BadWish("good")
    return thing


def _are_steps(deeds, steps):
    many = len(steps)
    for row in steps:
        if not isinstance(row, tuple) or len(row) != deeds:
            return False
        for state in row:
            if not isinstance(state, int) or state is True or state is False or not 0 <= state < many:
                return False
    return True


def need_both(works, wish):
    """Refuses what is not WORKS, and what is no WISH for their deeds."""
    need_works(works)
    need_wish(works[0], wish)


def is_good_state(wish, value):
    """Whether any value is a good state of a WISH."""
    return is_number(value) and value in wish[1]


def is_good_pair(works, wish, value):
    """Whether any value is a pair of a place, perhaps one that does not come, and a good state."""
    if not isinstance(value, tuple) or len(value) != 2:
        return False
    return is_good_state(wish, value[1]) and is_place(works, value[0])


def first_pair(works):
    """The pair of the first place and of 0."""
    return (first_place(works), 0)


def pair_stepper(works, wish):
    """A function that gives, for a pair of a place and a state, a dict of the deeds that can be done there,
    ascending, with the pairs behind, or None where the state is not good.

    It keeps what it gave; nothing may be changed in it.
    """
    steps_at = stepper(works)
    rows, good = wish
    known = {}

    def pair_steps(pair):
        if pair in known:
            return known[pair]
        row = rows[pair[1]]
        steps = {}
        for deed, place in steps_at(pair[0]).items():
            state = row[deed]
            steps[deed] = (place, state) if state in good else None
        known[pair] = steps
        return steps
    return pair_steps


def pair_table(works, wish):
    """The table of steps of the STANDINGS; a RUN that leads out leads out of it."""
    return spread(first_pair(works), pair_stepper(works, wish))


def pair_behind(works, wish, value):
    """The pair behind any value as a RUN that is wished, however long; None if it is none."""
    if not isinstance(value, tuple):
        return None
    steps_at = stepper(works)
    rows, good = wish
    place = first_place(works)
    state = 0
    for deed in value:
        if not isinstance(deed, int) or deed is True or deed is False:
            return None
        place = steps_at(place).get(deed)
        if place is None:
            return None
        state = rows[state][deed]
        if state not in good:
            return None
    return (place, state)


def wishes_row(deeds, wish, value):
    """Whether any value is a row that a WISH wishes, however long."""
    if not isinstance(value, tuple):
        return False
    rows, good = wish
    state = 0
    for deed in value:
        if not isinstance(deed, int) or deed is True or deed is False or not 0 <= deed < deeds:
            return False
        state = rows[state][deed]
        if state not in good:
            return False
    return True


def wish_table(deeds, wish):
    """The table of steps of the good states behind wished rows; a row that is not wished leads out of it."""
    def steps_of(state):
        return {deed: wish[0][state][deed] if wish[0][state][deed] in wish[1] else None for deed in range(deeds)}
    return spread(0, steps_of)


def wish_of_table(deeds, table):
    """The LEAST WISH of the rows that do not lead out of a table of steps that has all deeds everywhere."""
    least = merged(table, {node: 0 for node in table})
    numbers = {}
    for node, steps in least.items():
        for target in [node] + list(steps.values()):
            numbers.setdefault(target, len(numbers))
    if len(numbers) > 6:
        raise TooMany(6)
    rows = []
    for node, number in numbers.items():
        targets = list(least[node].values()) if node is not None else [None] * deeds
        rows.append(tuple([numbers[target] for target in targets]))
    return (tuple(rows), tuple([number for node, number in numbers.items() if node is not None]))


def state_of(deeds, wish, row):
    """The state behind a row."""
    need_wish(deeds, wish)
    need_row(deeds, row)
    state = 0
    for deed in row:
        state = wish[0][state][deed]
    return state


def is_wished(deeds, wish, value):
    """Whether any value is a row that is wished, however long."""
    need_wish(deeds, wish)
    return wishes_row(deeds, wish, value)


def least_wish(deeds, wish):
    """The LEAST WISH of a WISH."""
    need_wish(deeds, wish)
    return wish_of_table(deeds, wish_table(deeds, wish))


def meet(deeds, wish, other):
    """The LEAST WISH of the rows that both wish."""
    need_wish(deeds, wish)
    need_wish(deeds, other)
    return _mixed(deeds, wish, other, 1)


def join(deeds, wish, other):
    """The LEAST WISH of the rows that one of them wishes at least."""
    need_wish(deeds, wish)
    need_wish(deeds, other)
    return _mixed(deeds, wish, other, 2)


def _mixed(deeds, wish, other, least):
    """The LEAST WISH of the rows but those that at least so many of both do not wish."""
    def steps_of(states):
        steps = {}
        for deed in range(deeds):
            targets = _targets(wish, other, states, deed)
            steps[deed] = targets if targets.count(None) < least else None
        return steps
    return wish_of_table(deeds, spread((0, 0), steps_of))


def _targets(wish, other, states, deed):
    """The two states behind a deed, each None from where its WISH does not wish the row."""
    return (_good_behind(wish, states[0], deed), _good_behind(other, states[1], deed))


def _good_behind(wish, state, deed):
    if state is None or wish[0][state][deed] not in wish[1]:
        return None
    return wish[0][state][deed]


def wish_renamed(deeds, wish, names):
    """A WISH with other names: each deed stands as the one at its place of names."""
    need_wish(deeds, wish)
    need_names(deeds, names)
    steps = [tuple([row[names.index(deed)] for deed in range(deeds)]) for row in wish[0]]
    return (tuple(steps), wish[1])


def standings(works, wish):
    """The ascending tuple of the STANDINGS."""
    need_both(works, wish)
    return tuple(sorted(pair_table(works, wish)))


def first_unwished(works, wish):
    """The first RUN that is not wished, or None."""
    need_both(works, wish)
    return first_out(pair_table(works, wish))


def do_keep(works, wish):
    """Whether all RUNS are wished."""
    return first_unwished(works, wish) is None
