"""SAYINGS: which are such, when they hold, and the WISH made of one."""

from worksward.basics import is_below, is_lot, is_tuple_of, is_row, need_deeds, need_row, spread
from worksward.errors import BadWish
from worksward.wishes import wish_of_table

SIZES = {"begins": 2, "ends": 2, "has": 2, "most": 3, "till": 4, "not": 2, "and": 3, "or": 3}
JOINTS = ("not", "and", "or")


def need_saying(deeds, thing):
    """The thing itself; refuses what is no SAYING for so many deeds."""
    need_deeds(deeds)
    # The last one goes first here: each thing is looked at with all in it ahead of the next one.
    waiting = [((), thing)]
    many = 0
    plain = 0
    while len(waiting) > 0:
        path, part = waiting.pop()
        many += 1
        if many > 9 or len(path) > 4:
            raise BadWish(())
        if not _is_saying_row(deeds, part):
            raise BadWish(path)
        if part[0] in JOINTS:
            for index in range(len(part) - 1, 0, -1):
                waiting.append((path + (index,), part[index]))
        else:
            plain += 1
        if plain > 4:
            raise BadWish(())
    return thing


def _is_saying_row(deeds, part):
    """Whether a thing is as told, but for the SAYINGS in it."""
    if not isinstance(part, tuple) or len(part) == 0 or not isinstance(part[0], str):
        return False
    if SIZES.get(part[0]) != len(part):
        return False
    if part[0] in JOINTS:
        return True
    if part[0] == "most":
        return is_lot(deeds, part[1]) and is_below(4, part[2])
    if part[0] == "till":
        return all([is_lot(deeds, lot) for lot in part[1:]])
    return is_tuple_of(1, 3, part[1]) and is_row(deeds, part[1])


def does_hold(deeds, saying, row):
    """Whether a SAYING holds of a row."""
    need_saying(deeds, saying)
    need_row(deeds, row)
    mark = _first_mark(saying)
    for deed in row:
        mark = _next_mark(saying, mark, deed)
    return _is_held(saying, mark)


def wish_of(deeds, saying):
    """The WISH made of a SAYING, or None."""
    need_saying(deeds, saying)
    first = _first_mark(saying)
    if not _is_held(saying, first):
        return None

    def steps_of(mark):
        marks = {deed: _next_mark(saying, mark, deed) for deed in range(deeds)}
        return {deed: after if _is_held(saying, after) else None for deed, after in marks.items()}
    return wish_of_table(deeds, spread(first, steps_of))


def _first_mark(saying):
    """What is to be known of () to tell whether a SAYING holds of the rows behind it."""
    if saying[0] in JOINTS:
        return tuple([_first_mark(part) for part in saying[1:]])
    return 0


def _next_mark(saying, mark, deed):
    """What is to be known of a row with one deed more."""
    if saying[0] in JOINTS:
        return tuple([_next_mark(part, known, deed) for part, known in zip(saying[1:], mark)])
    if saying[0] == "begins":
        return _begun(saying[1], mark, deed)
    if saying[0] == "ends":
        return _ended(saying[1], mark, deed)
    if saying[0] == "has":
        return mark if mark == len(saying[1]) else _ended(saying[1], mark, deed)
    if saying[0] == "most":
        return _counted(saying[1], saying[2], mark, deed)
    return _awaited(saying, mark, deed)


def _begun(row, mark, deed):
    """How many deeds of the row have come, -1 if another one came."""
    if mark == -1 or mark == len(row):
        return mark
    return mark + 1 if deed == row[mark] else -1


def _ended(row, mark, deed):
    """How many deeds of the row, at the most, are the last ones that came."""
    last = row[:mark] + (deed,)
    return max([many for many in range(len(row) + 1) if many <= len(last) and last[len(last) - many:] == row[:many]])


def _counted(lot, most, mark, deed):
    """How many deeds of the lot came right behind one another at last, or most + 1 if once there were more."""
    if mark > most:
        return mark
    return mark + 1 if deed in lot else 0


def _awaited(saying, mark, deed):
    """1 if a deed of the third lot is awaited, 2 if one of the second lot came ahead of it, otherwise 0."""
    if mark == 2:
        return 2
    if mark == 1 and deed not in saying[3]:
        return 2 if deed in saying[2] else 1
    return 1 if deed in saying[1] else 0


def _is_held(saying, mark):
    """Whether a SAYING holds of a row of which this is known."""
    if saying[0] == "not":
        return not _is_held(saying[1], mark[0])
    if saying[0] == "and":
        return _is_held(saying[1], mark[0]) and _is_held(saying[2], mark[1])
    if saying[0] == "or":
        return _is_held(saying[1], mark[0]) or _is_held(saying[2], mark[1])
    if saying[0] == "begins":
        return mark != -1
    if saying[0] == "most":
        return mark <= saying[2]
    if saying[0] == "till":
        return mark != 2
    return mark == len(saying[1])
