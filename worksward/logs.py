"""LOGS: what their ENTRIES are, and which rows show them.

How far a row has shown an ENTRY is a number HEARD of deeds of its ROW and a number LOST of deeds of SEEN that were left
out since; a row may have several such couples behind it. These are a mask here, three bits for each HEARD.
"""

from worksward.basics import is_below, is_lot, is_row, is_tuple, is_tuple_of, need_deeds, need_row
from worksward.errors import BadLog, OutOfPlace

# The first bit of each HEARD from 0 to 8.
EACH_FIRST = 0o111111111


def need_log(deeds, thing):
    """The thing itself; refuses what is no LOG for so many deeds."""
    need_deeds(deeds)
    if not is_tuple_of(0, 8, thing):
        raise BadLog("form")
    for number, entry in enumerate(thing):
        if not _is_entry(deeds, entry):
            raise BadLog(number)
    return thing


def _is_entry(deeds, entry):
    if not is_tuple(4, entry):
        return False
    seen, loss, row, word = entry
    if not is_lot(deeds, seen) or not is_below(3, loss) or not is_tuple_of(0, 8, row) or not is_row(deeds, row):
        return False
    if not all([deed in seen for deed in row]):
        return False
    return isinstance(word, str) and word in ("done", "never")


def need_number(log, number):
    """Refuses what is no number of an ENTRY."""
    if not is_below(len(log), number):
        raise OutOfPlace("not the number of an entry")


def does_show(deeds, log, number, row):
    """Whether a row shows the ENTRY with a number."""
    need_log(deeds, log)
    need_number(log, number)
    need_row(deeds, row)
    return shows(deeds, log[number], row)


def shows(deeds, entry, row):
    """Whether a row, however long, shows an ENTRY."""
    moves, keeps, goal = moves_by(deeds, entry)
    mask = 1
    for deed in row:
        mask = moved(moves[deed], keeps, mask)
        if mask == 0:
            return False
    return mask >= goal


def moves_by(deeds, entry):
    """How an ENTRY goes on: a list with a mask for each deed, None for one that is not of SEEN; two masks besides.

    That of a deed has the first bit of each HEARD whose next deed in ROW it is. The one besides has all bits from which
    one more may be lost; the other one is the first bit behind all of ROW.
    """
    seen, loss, row, _ = entry
    moves = [0 if deed in seen else None for deed in range(deeds)]
    for heard, deed in enumerate(row):
        moves[deed] += 1 << 3 * heard
    keeps = 0
    for lost in range(loss):
        keeps += EACH_FIRST << lost
    return moves, keeps, 1 << 3 * len(row)


def moved(move, keeps, mask):
    """The mask behind one more deed, by its mask."""
    if move is None:
        return mask
    return (mask & keeps) << 1 | ((mask | mask >> 1 | mask >> 2) & move) << 3
