"""WIRES, their COURSES, what these tell, where WORKS may be by NEWS, and the SPANS that come."""

from worksward.basics import is_below, is_lot, is_row, is_tuple, is_tuple_of
from worksward.errors import BadWire, OutOfPlace, TooMany
from worksward.sights import coded, look_masks, mask_behind, numbers_in
from worksward.wishes import first_pair, need_both, pair_stepper
from worksward.works import first_place, need_works, place_table, stepper


def need_wire(works, thing):
    """The thing itself; refuses what is no WIRE."""
    need_works(works)
    return need_wire_of(works, thing)


def need_wire_of(works, thing):
    """The thing itself, the WORKS being such; refuses what is no WIRE."""
    if not is_tuple(3, thing):
        raise BadWire("form")
    sight, delay, loss = thing
    if not is_wire_sight(works, sight):
        raise BadWire("sight")
    if not is_below(3, delay):
        raise BadWire("delay")
    if not is_below(3, loss):
        raise BadWire("loss")
    return thing


def is_wire_sight(works, value):
    """Whether any value is a SIGHT of at most 3 deeds."""
    return is_lot(works[0], value) and len(value) <= 3


def is_course(works, wire, value):
    """Whether any value is a COURSE, however long."""
    need_works(works)
    need_wire_of(works, wire)
    return told_by(works, wire, value) is not None


def run_of(works, wire, course):
    """The RUN of a COURSE."""
    run, _ = _need_course(works, wire, course)
    return run


def news_of(works, wire, course):
    """The NEWS of a COURSE."""
    _, news = _need_course(works, wire, course)
    return news


def _need_course(works, wire, course):
    """The RUN and the NEWS of a COURSE; refuses what is none of at most 400 events."""
    need_works(works)
    need_wire_of(works, wire)
    told = told_by(works, wire, course) if is_tuple_of(0, 400, course) else None
    if told is None:
        raise OutOfPlace("not a course of at most 400 events")
    return told


def told_by(works, wire, value):
    """The RUN and the NEWS of any value as a COURSE, however long; None if it is none."""
    if not isinstance(value, tuple):
        return None
    steps_at = stepper(works)
    sight, delay, loss = wire
    place = first_place(works)
    way = ()
    gone = 0
    run = []
    news = []
    for event in value:
        if not _is_event(event):
            return None
        word, deed = event
        if word == "come":
            if len(way) == 0 or way[0] != deed:
                return None
        else:
            place = steps_at(place).get(deed)
            if place is None:
                return None
            run.append(deed)
            if word == "lost":
                if deed not in sight or gone == loss:
                    return None
                gone += 1
            elif deed in sight:
                way = way + (deed,)
                gone = 0
        if word == "come" or len(way) > delay:
            news.append(way[0])
            way = way[1:]
    return tuple(run), tuple(news)


def _is_event(event):
    """Whether any value is a pair of a word of events and an integer."""
    if not isinstance(event, tuple) or len(event) != 2:
        return False
    word, deed = event
    if not isinstance(word, str) or not isinstance(deed, int) or deed is True or deed is False:
        return False
    return word in ("done", "lost", "come")


def may_be(works, wire, news):
    """The ascending tuple of the places that may be by NEWS."""
    need_works(works)
    need_wire_of(works, wire)
    if not is_tuple_of(0, 400, news) or not is_row(works[0], news):
        raise OutOfPlace("not a tuple of at most 400 deeds")
    sight, delay, loss = wire
    nodes, goes, _ = coded(place_table(works))
    widths, jumps = look_masks(goes, [()] * len(goes), sight)
    known = {}
    # What may be right behind a deed that is told is known as a mask of places; others may be lost behind it.
    mask = widths[0]
    for deed in news:
        if (mask, deed) not in known:
            known[(mask, deed)] = mask_behind(jumps[deed], _with_lost(jumps, loss, mask)) if deed in sight else 0
        mask = known[(mask, deed)]
    if mask == 0:
        raise OutOfPlace("no course has these news")
    lot = _with_lost(jumps, loss, mask)
    # The deeds of NEWS may have come at once, and up to so many more may be under way.
    for _ in range(delay):
        mask = _behind_any(jumps, _with_lost(jumps, loss, mask))
        lot = lot | _with_lost(jumps, loss, mask)
    return tuple([nodes[number] for number in numbers_in(lot)])


def _with_lost(jumps, loss, mask):
    """The places of a mask, and those to which so many seen deeds, at most, lead from it."""
    lot = mask
    for _ in range(loss):
        mask = _behind_any(jumps, mask)
        lot = lot | mask
    return lot


def _behind_any(jumps, mask):
    """The places behind some seen deed, and unseen ones behind it, from those of a mask."""
    lot = 0
    for row in jumps.values():
        lot = lot | mask_behind(row, mask)
    return lot


def spans(works, wish, wire):
    """The ascending tuple of all SPANS that come behind COURSES with wished RUNS."""
    need_both(works, wish)
    need_wire_of(works, wire)
    return tuple(sorted(need_spans(works, pair_stepper(works, wish), wire)))


def need_spans(works, steps_at, wire):
    """A dict of the SPANS that come behind COURSES with wished RUNS, each with its events; refuses more than 60.

    Behind the word and the deed of an event stand the deed that is heard, or None, and the SPAN that follows. The steps
    of STANDINGS are given.
    """
    first = (*first_pair(works), (), 0)
    known = {first: _events(steps_at, wire, first)}
    layer = [first]
    while len(layer) > 0:
        following = []
        for span in layer:
            events = known[span]
            for _, _, _, target in events:
                if target not in known:
                    if len(known) == 60:
                        raise TooMany(60)
                    known[target] = _events(steps_at, wire, target)
                    following.append(target)
        layer = following
    return known


def _events(steps_at, wire, span):
    """The events of a SPAN behind which the RUN is wished, as need_spans() tells them."""
    sight, delay, loss = wire
    place, state, way, gone = span
    events = []
    for deed, pair in steps_at((place, state)).items():
        if pair is not None:
            if deed not in sight:
                events.append(("done", deed, None, (*pair, way, gone)))
                continue
            longer = way + (deed,)
            if len(longer) > delay:
                events.append(("done", deed, longer[0], (*pair, longer[1:], 0)))
            else:
                events.append(("done", deed, None, (*pair, longer, 0)))
            if gone < loss:
                events.append(("lost", deed, None, (*pair, way, gone + 1)))
    if len(way) > 0:
        events.append(("come", way[0], way[0], (place, state, way[1:], gone)))
    return events
