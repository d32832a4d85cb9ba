"""Whether two WORKS are alike, and papers on it."""

from worksward.basics import first_out, spread
from worksward.works import first_place, has_goal, need_other, need_works, stepper


def are_alike(works, other):
    """Whether two WORKS are alike."""
    return parting(works, other) is None


def alike_paper(works, other):
    """A paper on whether two WORKS are alike."""
    need_works(works)
    need_other(works, other)
    table = _couples(works, other)
    run = _parting_run(works, other, table)
    if run is None:
        return ("alike", tuple(sorted(table)))
    return ("unlike", run)


def parting(works, other):
    """The first RUN of a paper with "unlike", or None."""
    need_works(works)
    need_other(works, other)
    return _parting_run(works, other, _couples(works, other))


def _parting_run(works, other, table):
    if has_goal(works, first_place(works)) != has_goal(other, first_place(other)):
        return ()
    return first_out(table)


def _couples(works, other):
    """The table of steps of the couples of places behind the same RUNS; what parts them leads out."""
    steps_at = stepper(works)
    others_at = stepper(other)

    def steps_of(couple):
        steps = steps_at(couple[0])
        others = others_at(couple[1])
        behind = {}
        for deed in range(works[0]):
            if deed in steps and deed in others:
                one, two = steps[deed], others[deed]
                behind[deed] = (one, two) if has_goal(works, one) == has_goal(other, two) else None
            elif deed in steps or deed in others:
                behind[deed] = None
        return behind
    return spread((first_place(works), first_place(other)), steps_of)
