"""Tests that hold of rows, whether a LOG is told by them, papers on it, and the fewest tests by which it is told."""

from worksward.basics import need_deeds, need_row
from worksward.logs import need_log


def tests_of(deeds, row):
    """The ascending tuple of the tests that hold of a row."""
    need_deeds(deeds)
    need_row(deeds, row)
    return tuple(marks_of(deeds, row))


def are_told(deeds, log):
    """Whether a LOG is told by all tests."""
    need_log(deeds, log)
    return _alike(deeds, log) is None


def mark_paper(deeds, log):
    """A paper on whether a LOG is told by tests."""
    need_log(deeds, log)
    alike = _alike(deeds, log)
    if alike is not None:
        return ("alike", *alike)
    return ("told", _enough_tests(deeds, log))


def fewest_tests(deeds, log):
    """The first of the ascending tuples of at most 3 tests by which a LOG is told, of those with the fewest tests."""
    need_log(deeds, log)
    tests, full = _parting_tests(deeds, log)
    masks = list(tests.values())
    for many in range(4):
        if _can_cover(masks, full, many):
            return tuple(_first_cover(tests, masks, full, many))
    return None


def marks_of(deeds, row):
    """A list of the tests that hold of a row, ascending."""
    begins = []
    for part in [row[:1]] if len(row) > 0 else [(first,) for first in range(deeds)]:
        begins.append(part)
        # A row of fewer deeds begins with both as far as both go.
        begins += [row[:2]] if len(row) > 1 else [part + (second,) for second in range(deeds)]
    ends = [part for part in sorted(set([row[-1:], row[-2:]])) if len(part) > 0]
    has = sorted(set([(deed,) for deed in row] + list(zip(row, row[1:]))))
    marks = []
    for word, parts in (("begins", begins), ("ends", ends), ("has", has)):
        marks += [(word, part) for part in parts]
    return marks


def sign_of(deeds, row):
    """What is equal of two rows just if the same tests hold of both."""
    # Of one deed all rows begin alike.
    begin = row[:2] if deeds > 1 else ()
    return (begin, row[-2:], sorted(set(list(zip(row, row[1:])))))


def _alike(deeds, log):
    """The numbers of an ENTRY with "done" and of one with "never" whose ROWS are alike by tests, or None."""
    signs = [sign_of(deeds, row) for _, _, row, _ in log]
    for one, entry in enumerate(log):
        if entry[3] == "done":
            for two, other in enumerate(log):
                if other[3] == "never" and signs[one] == signs[two]:
                    return one, two
    return None


def _enough_tests(deeds, log):
    """An ascending tuple of tests by which a LOG is told that is told by all."""
    tests, left = _parting_tests(deeds, log)
    found = []
    while left > 0:
        first = left & -left
        best = None
        for test, mask in tests.items():
            if mask & first:
                best = test
                break
        found.append(best)
        left = left & ~tests[best]
    return tuple(sorted(found))


def _parting_tests(deeds, log):
    """A dict of tests, ascending, with masks of what they tell apart; and the mask of what is to be told apart.

    A mask has a bit for each two ENTRIES, one with "done" and one with "never". Of tests that tell apart the same just
    the first one is there.
    """
    dones = [number for number, entry in enumerate(log) if entry[3] == "done"]
    nevers = sum([1 << number for number, entry in enumerate(log) if entry[3] == "never"])
    holders = {}
    for number, entry in enumerate(log):
        for test in marks_of(deeds, entry[2]):
            holders[test] = holders.get(test, 0) + (1 << number)
    firsts = {}
    known = {0: True}
    for test in sorted(holders):
        lot = holders[test]
        mask = 0
        for number in dones:
            mask = mask << 8 | (nevers & ~lot if lot >> number & 1 else nevers & lot)
        if mask not in known:
            known[mask] = True
            firsts[test] = mask
    return firsts, sum([nevers << 8 * at for at in range(len(dones))])


def _can_cover(masks, need, many):
    """Whether so many masks together have all bits of one."""
    if need == 0 or many == 0:
        return need == 0
    if many == 1:
        return need in masks or any([need & ~mask == 0 for mask in masks])
    first = need & -need
    return any([_can_cover(masks, need & ~mask, many - 1) for mask in masks if mask & first])


def _first_cover(tests, masks, need, many):
    """The first tests, so many, whose masks have all bits of one, fewer not being enough."""
    for test, mask in tests.items():
        if many > 0 and _can_cover(masks, need & ~mask, many - 1):
            return [test, *_first_cover(tests, masks, need & ~mask, many - 1)]
    return []
