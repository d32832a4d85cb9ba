"""Whether two WORKS are alike, and papers on it."""

from worksward.basics import first_out, spread
from worksward.works import first_place, has_goal, need_other, need_works, steps_at


def are_alike(works, other):
    """Whether two WORKS are alike."""
    return parting(works, other) is None


def alike_paper(works, other):
    """A paper on whether two WORKS are alike."""
    run = parting(works, other)
    if run is None:
        return ("alike", tuple(sorted(_couples(works, other))))
    return ("unlike", run)


def parting(works, other):
    """The first RUN of a paper with "unlike", or None."""
    need_works(works)
    need_other(works, other)
    if has_goal(works, first_place(works)) != has_goal(other, first_place(other)):
        return ()
    return first_out(_couples(works, other))


def _couples(works, other):
    """The table of steps of the couples of places behind the same RUNS; what parts them leads out."""
    def steps_of(couple):
        steps = steps_at(works, couple[0])
        others = steps_at(other, couple[1])
        deeds = sorted(set(list(steps) + list(others)))
        return {deed: _couple(works, other, steps.get(deed), others.get(deed)) for deed in deeds}
    return spread((first_place(works), first_place(other)), steps_of)


def _couple(works, other, one, two):
    """The couple of two places, or None if they part both WORKS at once."""
    if one is None or two is None or has_goal(works, one) != has_goal(other, two):
        return None
    return (one, two)
