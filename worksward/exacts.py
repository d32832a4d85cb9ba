"""Whether a GUARD can let just the wished RUNS, papers on it, and the WIDER PART."""

from worksward.basics import first_rows
from worksward.wishes import need_both, pair_table
from worksward.works import first_place, stepper


def is_exact(works, wish):
    """Whether a WISH is exact."""
    return exact_paper(works, wish)[0] == "exact"


def exact_paper(works, wish):
    """A paper on whether a WISH is exact."""
    need_both(works, wish)
    table = pair_table(works, wish)
    for pair, steps in table.items():
        for deed, target in steps.items():
            if target is None and deed in works[2]:
                return ("out", first_rows(table)[pair], deed)
    return ("exact", tuple(sorted(table)))


def is_wider(works, wish, value):
    """Whether any value is a RUN of the WIDER PART, however long."""
    need_both(works, wish)
    if not isinstance(value, tuple):
        return False
    steps_at = stepper(works)
    rows, good = wish
    place = first_place(works)
    state = 0
    is_in = True
    for deed in value:
        if not isinstance(deed, int) or deed is True or deed is False:
            return False
        place = steps_at(place).get(deed)
        if place is None:
            return False
        if is_in:
            state = rows[state][deed]
            is_in = state in good
        # The deed that leads out is to be of FREE, and so are all behind it.
        if not is_in and deed not in works[2]:
            return False
    return True
