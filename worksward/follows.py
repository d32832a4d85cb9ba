"""Which WISHES follow from others, which are the same, and papers on both."""

from worksward.basics import first_out, spread
from worksward.wishes import need_wish
from worksward.works import first_place, need_works, stepper


def does_follow(works, wish, other):
    """Whether a WISH follows from another one in WORKS."""
    _need_both(works, wish, other)
    return first_out(_follow_table(works, wish, other)) is None


def follow_paper(works, wish, other):
    """A paper on whether a WISH follows from another one in WORKS."""
    _need_both(works, wish, other)
    table = _follow_table(works, wish, other)
    run = first_out(table)
    if run is None:
        return ("follows", tuple(sorted(table)))
    return ("not", run)


def _need_both(works, wish, other):
    need_works(works)
    need_wish(works[0], wish)
    need_wish(works[0], other)


def _follow_table(works, wish, other):
    """The table of steps of the triples behind RUNS that both wish; what only the other wishes leads out."""
    steps_at = stepper(works)
    rows, good = wish
    others, others_good = other

    def steps_of(triple):
        place, one, two = triple
        steps = {}
        for deed, target in steps_at(place).items():
            after = others[one][deed]
            if after in others_good:
                state = rows[two][deed]
                steps[deed] = (target, after, state) if state in good else None
        return steps
    return spread((first_place(works), 0, 0), steps_of)


def are_same(deeds, wish, other):
    """Whether two WISHES are the same."""
    return parting_row(deeds, wish, other) is None


def same_paper(deeds, wish, other):
    """A paper on whether two WISHES are the same."""
    row = parting_row(deeds, wish, other)
    if row is None:
        return ("same", tuple(sorted(_same_table(deeds, wish, other))))
    return ("unlike", row)


def parting_row(deeds, wish, other):
    """The first row that just one of two WISHES wishes, or None."""
    need_wish(deeds, wish)
    need_wish(deeds, other)
    return first_out(_same_table(deeds, wish, other))


def _same_table(deeds, wish, other):
    """The table of steps of the couples of states behind rows that both wish; what just one wishes leads out."""
    def steps_of(couple):
        steps = {}
        for deed in range(deeds):
            one = wish[0][couple[0]][deed]
            two = other[0][couple[1]][deed]
            if one in wish[1] and two in other[1]:
                steps[deed] = (one, two)
            elif one in wish[1] or two in other[1]:
                steps[deed] = None
        return steps
    return spread((0, 0), steps_of)
