"""Whether a GUARD can let just the wished RUNS, papers on it, and the WIDER PART."""

from worksward.basics import first_rows
from worksward.wishes import first_pair, need_wish, pair_table
from worksward.works import is_run, need_works


def is_exact(works, wish):
    """Whether a WISH is exact."""
    return exact_paper(works, wish)[0] == "exact"


def exact_paper(works, wish):
    """A paper on whether a WISH is exact."""
    need_works(works)
    need_wish(works[0], wish)
    table = pair_table(works, wish)
    runs = first_rows(table)
    for pair, steps in table.items():
        for deed, target in steps.items():
            if target is None and deed in works[2]:
                return ("out", runs[pair], deed)
    return ("exact", tuple(sorted(table)))


def is_wider(works, wish, value):
    """Whether any value is a RUN of the WIDER PART, however long."""
    need_works(works)
    need_wish(works[0], wish)
    if not is_run(works, value):
        return False
    table = pair_table(works, wish)
    pair = first_pair(works)
    for deed in value:
        if pair is not None:
            pair = table[pair][deed]
        if pair is None and deed not in works[2]:
            return False
    return True
