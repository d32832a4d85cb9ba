"""CASES and BOOKS of them: papers with what they speak of, judged by the checks."""

from worksward.aimpapers import check_aim
from worksward.alikepapers import check_alike
from worksward.basics import is_tuple, is_tuple_of
from worksward.costpapers import check_mean, check_total
from worksward.errors import (
    BadLog, BadPaper, BadPost, BadText, BadWire, BadWish, BadWorks, Nothing, OutOfPlace, TooMany,
)
from worksward.exactpapers import check_exact
from worksward.faultpapers import check_foreseen, check_told
from worksward.keepingpapers import check_keeping
from worksward.logpapers import check_fit
from worksward.markpapers import check_marks
from worksward.normalpapers import check_normal
from worksward.postpapers import check_posts
from worksward.secretpapers import check_masks, check_secret
from worksward.sightkeeppapers import check_sight
from worksward.teampapers import check_bring, check_within
from worksward.wirepapers import check_wire
from worksward.wishpapers import check_follow, check_same

# How many ARGS a CASE with each NAME has.
SIZES = {
    "aim": 2, "alike": 2, "bring": 3, "exact": 2, "fit": 3, "follow": 3, "foreseen": 3, "keeping": 2, "marks": 2,
    "masks": 2, "mean": 3, "normal": 3, "posts": 3, "same": 3, "secret": 3, "sight": 3, "told": 3, "total": 3,
    "wire": 3, "within": 4,
}


def names():
    """The ascending tuple of all NAMES."""
    return tuple(sorted(SIZES))


def need_case(thing):
    """The thing itself; refuses what is no CASE."""
    if not is_case(thing):
        raise OutOfPlace("not a case")
    return thing


def is_case(thing):
    """Whether any value is a CASE."""
    if not is_tuple(3, thing) or not isinstance(thing[0], str):
        return False
    return thing[0] in SIZES and is_tuple(SIZES[thing[0]], thing[1])


def need_book(thing):
    """Refuses what is no BOOK."""
    if not is_tuple_of(0, 12, thing) or not all([is_case(case) for case in thing]):
        raise OutOfPlace("not a book")


def judge(case):
    """The word that the call for a CASE returns."""
    need_case(case)
    return _judge(case)


def _judge(case):
    name, args, paper = case
    checks = {
        "aim": check_aim, "alike": check_alike, "bring": check_bring, "exact": check_exact, "fit": check_fit,
        "follow": check_follow, "foreseen": check_foreseen, "keeping": check_keeping, "marks": check_marks,
        "masks": check_masks, "mean": check_mean, "normal": check_normal, "posts": check_posts, "same": check_same,
        "secret": check_secret, "sight": check_sight, "told": check_told, "total": check_total, "wire": check_wire,
        "within": check_within,
    }
    check = checks[name]
    return check(*args, paper)


def judged(book):
    """A tuple with the word of each CASE of a BOOK, or how it is refused."""
    need_book(book)
    return tuple([_told_of(case) for case in book])


def _told_of(case):
    try:
        return _judge(case)
    except BadPaper as error:
        return ("wrong", error.part)
    except (BadWorks, BadWish, BadPost, BadWire, BadLog, BadText, OutOfPlace, Nothing, TooMany):
        return ("refused",)
