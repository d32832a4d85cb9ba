"""The LEAST PLAN of a LOG, and which starts of a LOG are parted.

A search for a PLAN gives rows to its numbers, one by one. What is known of an ENTRY on the way is a list of masks, as
logs.py has them, one for each number: how far RUNS that come there have shown it.
"""

from worksward.basics import is_row
from worksward.errors import OutOfPlace
from worksward.logs import moved, moves_by, need_log


def least_log_plan(deeds, log):
    """The LEAST PLAN of a LOG, or None."""
    need_log(deeds, log)
    row = _lone_row(log)
    if row is not None:
        return (deeds, (row,), ())
    most = {1: 4, 2: 3, 3: 2}.get(deeds, 1)
    if most == 1 or _do_clash(deeds, log):
        return None
    for many in range(max(2, _least_number(deeds, log)), most + 1):
        masks = [1] + [0] * (many - 1)
        tasks = [(entry[3] == "done", moves_by(deeds, entry), masks) for entry in log if len(entry[2]) > 0]
        rows = _rows_for((deeds, many), (), (), 0, tasks)
        if rows is not None:
            return (deeds, rows, ())
    return None


def _lone_row(log):
    """The first row of a PLAN with one number, or None: all that is to be shown must be done, and no such whole ROW."""
    wanted = [deed for _, _, row, word in log if word == "done" for deed in row]
    nevers = [row for _, _, row, word in log if word == "never"]
    if _has_one(nevers, wanted):
        return None
    chosen = []
    for deed in range(max([-1, *wanted]) + 1):
        if deed in wanted or not _has_one(nevers, [*wanted, *chosen, deed]):
            chosen.append(deed)
    return tuple([(deed, 0) for deed in chosen])


def _has_one(rows, deeds):
    """Whether all deeds of one of some rows are among some deeds."""
    return any([all([deed in deeds for deed in row]) for row in rows])


def _do_clash(deeds, log):
    """Whether a ROW that must be a RUN, as () is, shows what none may show, or has a beginning that does."""
    walks = [moves_by(deeds, entry) for entry in log if entry[3] == "never"]
    if any([goal == 1 for _, _, goal in walks]):
        return True
    for seen, loss, row, word in log:
        if word == "done" and len(seen) == deeds and loss == 0:
            for moves, keeps, goal in walks:
                mask = 1
                for deed in row:
                    if mask < goal:
                        mask = moved(moves[deed], keeps, mask)
                if mask >= goal:
                    return True
    return False


def _least_number(deeds, log):
    """How many numbers a PLAN has at least: as many as a PARTED LOT has starts."""
    rows, nevers = _starts_of([entry for entry in log if len(entry[0]) == deeds and entry[1] == 0])
    return len(_greatest_lot(_friends(rows, nevers), [], (1 << len(rows)) - 1, []))


def _rows_for(sizes, rows, row, met, tasks):
    """The first rows of a PLAN that begins with some rows and a part of the next one; None if there are none.

    Sizes are the numbers of deeds and of rows; met is the greatest number that a row names: in the first one of equal
    PLANS numbers are named in turn. Tasks are what is to be shown and is not, and what is not to be shown.
    """
    deeds, many = sizes
    if len(rows) + 1 == many:
        if not any([is_wanted for is_wanted, _, _ in tasks]):
            return (*rows, row)
    elif met > len(rows) and all([any(masks[len(rows) + 1:]) for is_wanted, _, masks in tasks if is_wanted]):
        found = _rows_for(sizes, (*rows, row), (), met, tasks)
        if found is not None:
            return found
    for deed in range(row[-1][0] + 1 if len(row) > 0 else 0, deeds):
        for target in range(min(met + 2, many)):
            longer = (*row, (deed, target))
            left = _tasks_left((*rows, longer), deed, target, tasks)
            if left is not None:
                found = _rows_for(sizes, rows, longer, max(met, target), left)
                if found is not None:
                    return found
    return None


def _tasks_left(rows, deed, target, tasks):
    """The tasks behind one more deed at the end of the rows; None if what is not to be shown is."""
    left = []
    for task in tasks:
        is_wanted, walk, masks = task
        fresh = moved(walk[0][deed], walk[1], masks[len(rows) - 1]) & ~masks[target]
        known = masks if fresh == 0 else _masks_with(rows, walk, masks, target, fresh)
        if known is not None:
            left.append((is_wanted, walk, known))
        elif not is_wanted:
            return None
    return left


def _masks_with(rows, walk, masks, target, fresh):
    """The masks with what is fresh at a number, and with what comes of it by rows; None if an ENTRY is shown then."""
    moves, keeps, goal = walk
    known = list(masks)
    waiting = [(target, fresh)]
    while len(waiting) > 0:
        number, mask = waiting.pop()
        mask = mask & ~known[number]
        if mask >= goal:
            return None
        if mask > 0:
            known[number] = known[number] | mask
            if number < len(rows):
                waiting += [(to, moved(moves[deed], keeps, mask)) for deed, to in rows[number]]
    return known


def are_parted(deeds, log, one, other):
    """Whether two starts of a LOG are parted."""
    starts, nevers = _need_starts(deeds, log)
    for start in (one, other):
        if not is_row(deeds, start) or start not in starts:
            raise OutOfPlace("not a start of the log")
    return _is_parted(starts, nevers, one, other) or _is_parted(starts, nevers, other, one)


def _need_starts(deeds, log):
    """The starts of a LOG, ascending, and its ROWS with "never"; refuses a LOG that does not show whole rows."""
    need_log(deeds, log)
    for seen, loss, _, _ in log:
        if len(seen) < deeds or loss > 0:
            raise OutOfPlace("an entry does not see all deeds, or may lose some")
    return _starts_of(log)


def _starts_of(log):
    """The starts of a LOG, ascending, and its ROWS with "never"."""
    starts = {}
    nevers = []
    for _, _, row, word in log:
        if word == "never":
            nevers.append(row)
        else:
            for many in range(len(row) + 1):
                starts[row[:many]] = True
    return sorted(starts), nevers


def _is_parted(starts, nevers, one, other):
    """Whether a row behind makes a start of one, and of the other one what begins with a ROW with "never"."""
    for row in nevers:
        if other[:len(row)] == row:
            return True
        if row[:len(other)] == other and one + row[len(other):] in starts:
            return True
    return False


def parted_lot(deeds, log):
    """The first PARTED LOT of those with the most starts."""
    rows, nevers = _need_starts(deeds, log)
    lot = _greatest_lot(_friends(rows, nevers), [], (1 << len(rows)) - 1, [])
    return tuple([rows[number] for number in lot])


def _friends(rows, nevers):
    """For each start, by its number, a mask of those that are parted from it."""
    friends = [0] * len(rows)
    for number, start in enumerate(rows):
        for row in nevers:
            if start[:len(row)] == row:
                lot = list(range(len(rows)))
            elif row[:len(start)] == start:
                more = row[len(start):]
                # Beginnings of starts are starts.
                lot = [rows.index(other[:-len(more)]) for other in rows if other[-len(more):] == more]
            else:
                continue
            for other in lot:
                friends[number] = friends[number] | 1 << other
                friends[other] = friends[other] | 1 << number
    return friends


def _greatest_lot(friends, lot, among, best):
    """The first greatest lot of numbers, each two of them friends, that has one and more of some greater numbers.

    The best one that is known is given if there is none that is greater.
    """
    if among == 0 and len(lot) > len(best):
        return lot
    while len(lot) + _most_friends(friends, among) > len(best):
        first = among & -among
        among -= first
        number = first.bit_length() - 1
        best = _greatest_lot(friends, lot + [number], among & friends[number], best)
    return best


def _most_friends(friends, among):
    """A number that is not less than how many of some numbers are friends, each two of them."""
    many = 0
    while among > 0:
        many += 1
        # No two that are taken here are friends.
        rest = among
        while rest > 0:
            first = rest & -rest
            among -= first
            rest = rest - first & ~friends[first.bit_length() - 1]
    return many
