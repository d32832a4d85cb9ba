"""The checks of papers on the MEAN of a WISH, and on TOTALS."""

from math import gcd

from worksward.basics import are_ascending, is_below, is_list_by, is_lot, is_number, is_tuple, need_paper, need_proof
from worksward.errors import OutOfPlace
from worksward.wishes import first_pair, is_good_pair, need_both, pair_stepper
from worksward.works import has_goal


def need_prices(works, prices):
    """Refuses what is not PRICES for the deeds of WORKS."""
    if not is_tuple(works[0], prices) or not all([is_below(10, price) for price in prices]):
        raise OutOfPlace("prices is not a tuple with an integer from 0 to 9 for each deed")


def check_mean(works, wish, prices, paper):
    """The word of a paper on a fraction as MEAN."""
    need_both(works, wish)
    need_prices(works, prices)
    word = need_paper(paper, {"most": 3, "least": 4})
    if not _is_fraction(paper[1]):
        return need_proof(word, False)
    if word == "most":
        return need_proof(word, _is_most(works, wish, prices, paper[1], paper[2]))
    return need_proof(word, _is_least(works, wish, prices, paper[1], paper[2:]))


def check_total(works, wish, prices, paper):
    """The word of a paper on a TOTAL."""
    need_both(works, wish)
    need_prices(works, prices)
    word = need_paper(paper, {"total": 3, "more": 3})
    if not _is_count(paper[1]):
        return need_proof(word, False)
    if word == "total":
        return need_proof(word, _is_total(works, wish, prices, paper[1], paper[2]))
    return need_proof(word, _is_more(works, wish, prices, paper[1], paper[2]))


def _is_count(value):
    return is_number(value) and value >= 0


def _is_fraction(value):
    """Whether any value is a fraction (A, B) in lowest terms."""
    if not is_tuple(2, value) or not _is_count(value[0]) or not is_number(value[1]) or value[1] < 1:
        return False
    return gcd(value[0], value[1]) == 1


def _are_rows(works, wish, many, rows):
    """Whether it is an ascending tuple of tuples of so many things, each with a good PAIR first, none twice."""
    if not isinstance(rows, tuple):
        return False
    for row in rows:
        if not is_tuple(many, row) or not is_good_pair(works, wish, row[0]):
            return False
    return are_ascending([row[0] for row in rows])


def _free_ways(works, steps):
    """The deeds of FREE that can be done."""
    return [deed for deed in works[2] if deed in steps]


def _is_choice(works, deeds, steps):
    """Whether any value has, ascending, deeds that can be done, one at least, all such ones of FREE among them."""
    if not is_lot(works[0], deeds) or len(deeds) == 0 or not all([deed in steps for deed in deeds]):
        return False
    return all([deed in deeds for deed in _free_ways(works, steps)])


def _is_most(works, wish, prices, mean, rows):
    if not _are_rows(works, wish, 3, rows) or not all([_is_count(height) for _, _, height in rows]):
        return False
    heights = {pair: height for pair, _, height in rows}
    if first_pair(works) not in heights:
        return False
    steps_at = pair_stepper(works, wish)
    for pair, deeds, height in rows:
        steps = steps_at(pair)
        if not _is_choice(works, deeds, steps):
            return False
        for deed in deeds:
            target = steps[deed]
            if target not in heights or mean[1] * prices[deed] - mean[0] > height - heights[target]:
                return False
    return True


def _is_least(works, wish, prices, mean, told):
    gone, rows = told

    def is_pair(value):
        return is_good_pair(works, wish, value)
    if not is_list_by(is_pair, gone) or not all([_is_count(rank) for _, rank in gone]):
        return False
    if not _are_rows(works, wish, 3, rows) or not all([_is_count(height) for _, _, height in rows]):
        return False
    ranks = {pair: rank for pair, rank in gone}
    heights = {pair: height for pair, _, height in rows}
    if first_pair(works) not in heights:
        return False
    steps_at = pair_stepper(works, wish)
    if not all([_is_gone(works, steps_at(pair), ranks, rank) for pair, rank in gone]):
        return False
    for pair, deed, height in rows:
        steps = steps_at(pair)
        if not _is_chosen(works, deed, steps):
            return False
        ways = list(steps) if deed is None else [deed]
        for way in ways:
            if not _holds(steps[way], ranks, heights, height, mean[1] * prices[way] - mean[0]):
                return False
    return True


def _is_gone(works, steps, ranks, rank):
    """Whether a deed of FREE leads away, or no such deed can be done, and all others lead so."""
    free = _free_ways(works, steps)
    if len(free) > 0:
        return any([_leads_away(steps[deed], ranks, rank) for deed in free])
    return all([_leads_away(target, ranks, rank) for target in steps.values()])


def _leads_away(target, ranks, rank):
    return target is None or target in ranks and ranks[target] < rank


def _is_chosen(works, deed, steps):
    """Whether any value is a deed of FREE that can be done, or is None where no such deed can be."""
    free = _free_ways(works, steps)
    if deed is None:
        return len(free) == 0
    return is_number(deed) and deed in free


def _holds(target, ranks, heights, height, worth):
    if target is None or target in ranks:
        return True
    return target in heights and heights[target] - height <= worth


def _is_total(works, wish, prices, total, rows):
    if not _are_rows(works, wish, 4, rows):
        return False
    if not all([_is_count(left) and _is_count(many) for _, _, left, many in rows]):
        return False
    known = {pair: (left, many) for pair, _, left, many in rows}
    if first_pair(works) not in known or known[first_pair(works)][0] > total:
        return False
    steps_at = pair_stepper(works, wish)
    for pair, deeds, left, many in rows:
        if has_goal(works, pair[0]):
            if not is_tuple(0, deeds):
                return False
            continue
        steps = steps_at(pair)
        if not _is_choice(works, deeds, steps):
            return False
        for deed in deeds:
            behind = known.get(steps[deed])
            if behind is None or behind[1] >= many or behind[0] + prices[deed] > left:
                return False
    return True


def _is_more(works, wish, prices, total, rows):
    if not _are_rows(works, wish, 2, rows):
        return False
    for pair, low in rows:
        if has_goal(works, pair[0]) or low is not None and not (is_number(low) and low > 0):
            return False
    lows = {pair: low for pair, low in rows}
    first = first_pair(works)
    if first not in lows or lows[first] is not None and lows[first] <= total:
        return False
    steps_at = pair_stepper(works, wish)
    return all([_is_owed(works, prices, lows, steps_at(pair), low) for pair, low in rows])


def _is_owed(works, prices, lows, steps, low):
    """Whether a deed of FREE owes at least as much, or no such deed can be done, and all others do."""
    free = _free_ways(works, steps)
    if len(free) > 0:
        return any([_owes(prices, lows, steps, deed, low) for deed in free])
    return all([_owes(prices, lows, steps, deed, low) for deed in steps])


def _owes(prices, lows, steps, deed, low):
    """Whether a deed owes at least as much; None is more than any integer."""
    target = steps[deed]
    if target is None:
        return True
    # What is not listed, as GOALS are not, owes nothing.
    debt = lows.get(target, 0)
    if debt is None:
        return True
    return low is not None and debt + prices[deed] >= low
