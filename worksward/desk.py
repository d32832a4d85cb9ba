"""A desk: a HOUSE that is led by lines of text, and tells of its WORKS."""

from worksward.alikes import are_alike
from worksward.basics import is_tuple
from worksward.booktexts import case_text, read_case
from worksward.casebook import judged
from worksward.errors import (
    BadLog, BadPaper, BadPost, BadText, BadWire, BadWish, BadWorks, Nothing, OutOfPlace, TooMany,
)
from worksward.exacts import exact_paper, is_exact
from worksward.house import House
from worksward.keeping import can_keep, keeping_paper
from worksward.posts import need_posts_of
from worksward.sightkeeps import can_keep_by
from worksward.things import read_thing, thing_text
from worksward.wishes import do_keep, need_wish

# The deeds as lines have them.
DEEDS = ("0", "1", "2", "3", "4", "5")


class Desk:
    """A desk with a HOUSE, or without one at first."""

    def __init__(self):
        self._house = None

    @property
    def house(self):
        """The House itself, or None."""
        return self._house

    def say(self, line):
        """The answer to a line; "no" to what is no line or is refused, which changes nothing."""
        if not isinstance(line, str):
            return "no"
        word, *words = line.split(" ")
        try:
            answer = self._answer(word, words)
        except (BadLog, BadPaper, BadPost, BadText, BadWire, BadWish, BadWorks, Nothing, OutOfPlace, TooMany):
            return "no"
        return "no" if answer is None else answer

    def _answer(self, word, words):
        """The answer to a line; None, or an error, if there is none."""
        if word == "judge":
            return _judged(" ".join(words))
        if word == "works":
            return self._settle(House(read_thing(" ".join(words))))
        house = self._house
        if house is None:
            return None
        if word == "wish":
            wish = need_wish(house.works[0], read_thing(" ".join(words)))
            return self._settle(House(house.works, wish=wish))
        if word == "posts":
            # A text of both is not one of a THING; in a tuple they are.
            both = " ".join(words)
            things = read_thing(f"({both})")
            if not is_tuple(2, things):
                return None
            posts = need_posts_of(house.works, things[0])
            return self._settle(House(house.works, wish=house.wish, posts=posts, team=things[1]))
        if word == "alike":
            return _yes_or_not(are_alike(house.works, read_thing(" ".join(words))))
        if word in ("sight", "do"):
            deeds = _deeds_of(house, words)
            if deeds is None:
                return None
            return _do(house, deeds) if word == "do" else _sight(house, deeds)
        if word == "paper":
            return _paper(house, words)
        return _answer_alone(house, word) if len(words) == 0 else None

    def _settle(self, house):
        self._house = house
        return "done"


def _judged(text):
    told = judged((read_case(text),))[0]
    if isinstance(told, str):
        return told
    return " ".join([told[0], *[thing_text(part) for part in told[1:]]])


def _yes_or_not(is_so):
    return "yes" if is_so else "not"


def _deeds_of(house, words):
    """The tuple of the deeds that words write; None if one of them writes none."""
    if not all([word in DEEDS[:house.works[0]] for word in words]):
        return None
    return tuple([DEEDS.index(word) for word in words])


def _do(house, deeds):
    """What do tells of each deed, up to the first one that is not done."""
    answers = []
    for deed in deeds:
        answers.append(house.do(deed))
        if answers[-1] != "done":
            break
    return " ".join(answers) if len(answers) > 0 else None


def _sight(house, deeds):
    return None if house.wish is None else _yes_or_not(can_keep_by(house.works, house.wish, deeds))


def _paper(house, words):
    """The text of a CASE by the WORKS and the WISH."""
    if house.wish is None or len(words) != 1 or words[0] not in ("keeping", "exact"):
        return None
    tell = keeping_paper if words[0] == "keeping" else exact_paper
    return case_text((words[0], (house.works, house.wish), tell(house.works, house.wish)))


def _answer_alone(house, word):
    """The answer to a line of one word; None if there is none."""
    if word in ("keep", "exact", "kept"):
        if house.wish is None:
            return None
        calls = {"keep": can_keep, "exact": is_exact, "kept": do_keep}
        tell = calls[word]
        return _yes_or_not(tell(house.works, house.wish))
    if word == "run":
        return _numbers(house.run)
    if word == "open":
        return _numbers(house.open_deeds())
    if word == "place":
        return thing_text(house.place())
    if word == "verdict":
        verdict = house.verdict()
        return "none" if verdict is None else f"{verdict}"
    if word == "back":
        house.back()
        return "done"
    return None


def _numbers(deeds):
    return " ".join([f"{deed}" for deed in deeds]) if len(deeds) > 0 else "none"
