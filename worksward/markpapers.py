"""The check of papers on whether a LOG is told by tests."""

from worksward.basics import is_below, is_lot_of, is_row, is_tuple, is_tuple_of, need_paper, need_proof
from worksward.logs import need_log
from worksward.marks import sign_of


def check_marks(deeds, log, paper):
    """The first word of a paper on whether a LOG is told by tests."""
    need_log(deeds, log)
    word = need_paper(paper, {"told": 2, "alike": 3})
    if word == "told":
        return need_proof(word, _are_telling(deeds, log, paper[1]))
    return need_proof(word, _are_alike(deeds, log, paper[1], paper[2]))


def _are_telling(deeds, log, tests):
    def is_test(value):
        if not is_tuple(2, value) or not is_tuple_of(1, 2, value[1]) or not is_row(deeds, value[1]):
            return False
        return isinstance(value[0], str) and value[0] in ("begins", "ends", "has")
    if not is_lot_of(is_test, tests):
        return False
    signs = [[_holds(word, part, row) for word, part in tests] for _, _, row, _ in log]
    dones = [sign for sign, entry in zip(signs, log) if entry[3] == "done"]
    nevers = [sign for sign, entry in zip(signs, log) if entry[3] == "never"]
    return not any([sign in nevers for sign in dones])


def _holds(word, part, row):
    """Whether a test holds of a row."""
    if word == "begins":
        return row[:len(part)] == part[:len(row)]
    if word == "ends":
        return row[-len(part):] == part
    return any([row[at:at + len(part)] == part for at in range(len(row))])


def _are_alike(deeds, log, one, two):
    if not is_below(len(log), one) or not is_below(len(log), two):
        return False
    if log[one][3] != "done" or log[two][3] != "never":
        return False
    return sign_of(deeds, log[one][2]) == sign_of(deeds, log[two][2])
