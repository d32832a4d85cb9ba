"""HOUSES: WORKS in which deeds are done one by one, with a WISH, and with POSTS and a TEAM of theirs."""

from worksward.basics import is_below, is_lot, is_number
from worksward.errors import Nothing, OutOfPlace
from worksward.posts import need_posts_of
from worksward.sights import seen_of
from worksward.teams import first_node, need_team_of, team_stepper
from worksward.wishes import need_wish
from worksward.works import first_place, need_works, stepper


class House:
    """WORKS with what watches over them, and the RUN that was done in them.

    For each beginning of the RUN it keeps a triple: a node, which is the pair of the place and of the numbers of the
    pairs of all minds; the state of the WISH; and how many deeds the first beginning has that is not wished, or None.
    """

    def __init__(self, works, *, wish=None, posts=None, team=None):
        need_works(works)
        if wish is not None:
            need_wish(works[0], wish)
        if posts is not None:
            need_posts_of(works, posts)
            need_team_of(works, posts, team)
        elif team is not None:
            raise OutOfPlace("a team without posts")
        self._works = works
        self._wish = wish
        self._posts = posts
        self._team = team
        self._steps_at = stepper(works)
        self._passing_at = None if posts is None else team_stepper(works, posts, team)
        # The deeds that pass at the nodes that were met, with the nodes behind.
        self._known = {}
        self._run = []
        self._behind = [((first_place(works), ()) if posts is None else first_node(works, posts), 0, None)]

    @property
    def works(self):
        """The WORKS."""
        return self._works

    @property
    def wish(self):
        """The WISH, or None."""
        return self._wish

    @property
    def posts(self):
        """The POSTS, or None."""
        return self._posts

    @property
    def team(self):
        """The TEAM of the POSTS, or None."""
        return self._team

    @property
    def run(self):
        """The RUN that was done."""
        return tuple(self._run)

    def do(self, deed):
        """Does a deed: "done"; or tells why not: "cannot" be done, or "held" since it does not pass."""
        if not is_below(self._works[0], deed):
            raise OutOfPlace("not a deed of the works")
        node, state, unwished = self._behind[-1]
        target = self._ways(node).get(deed)
        if target is None:
            return "held" if deed in self._steps_at(node[0]) else "cannot"
        self._run.append(deed)
        if self._wish is not None:
            steps, good = self._wish
            state = steps[state][deed]
            if unwished is None and state not in good:
                unwished = len(self._run)
        self._behind.append((target, state, unwished))
        return "done"

    def _ways(self, node):
        """A dict of the deeds that pass at a node, ascending, with the nodes behind."""
        if node not in self._known:
            if self._posts is None:
                self._known[node] = {deed: (place, ()) for deed, place in self._steps_at(node[0]).items()}
            else:
                self._known[node] = self._passing_at(node)
        return self._known[node]

    def place(self):
        """The place of the RUN."""
        node, _, _ = self._behind[-1]
        return node[0]

    def looks(self):
        """A tuple with the LOOK of the RUN by the SIGHT of each post."""
        if self._posts is None:
            return ()
        return tuple([seen_of(sight, self._run) for sight, _ in self._posts])

    def minds(self):
        """The tuple of the numbers of the pairs of all minds."""
        node, _, _ = self._behind[-1]
        return node[1]

    def open_deeds(self):
        """The ascending tuple of the deeds that would be done."""
        node, _, _ = self._behind[-1]
        return tuple(self._ways(node))

    def verdict(self):
        """None without a WISH; "wished", or how many deeds the first beginning of the RUN has that is not wished."""
        if self._wish is None:
            return None
        _, _, unwished = self._behind[-1]
        return "wished" if unwished is None else unwished

    def entry(self, seen):
        """The ENTRY that the RUN shows to whom sees some deeds, and loses none."""
        if not is_lot(self._works[0], seen):
            raise OutOfPlace("seen is not an ascending tuple of deeds")
        row = seen_of(seen, self._run)
        if len(row) > 8:
            raise Nothing("the row of the entry would be too long")
        return (seen, 0, row, "done")

    def back(self, *, many=1):
        """Takes the last deeds back."""
        if not is_number(many) or many < 1:
            raise OutOfPlace("many is not an integer from 1 on")
        if many > len(self._run):
            raise Nothing("the run has not so many deeds")
        del self._run[-many:]
        del self._behind[-many:]

    def copy(self):
        """A House with the same, that goes on by itself."""
        other = House(self._works, wish=self._wish, posts=self._posts, team=self._team)
        other._run = list(self._run)
        other._behind = list(self._behind)
        return other

    def trial(self):
        """An object for one with statement, behind whose block the house is as it was when the block began."""
        return Trial(self)

    def __len__(self):
        """How many deeds the RUN has."""
        return len(self._run)

    def __contains__(self, deed):
        """Whether any value is a deed of the RUN."""
        return is_number(deed) and deed in self._run

    def __eq__(self, other):
        """Whether other is a House with the same WORKS, WISH, POSTS, TEAM and RUN."""
        return (
            isinstance(other, House) and self._works == other._works and self._wish == other._wish
            and self._posts == other._posts and self._team == other._team and self._run == other._run
        )


class Trial:
    """What a with statement leaves of a House as it was."""

    def __init__(self, held):
        self._held = held
        self._old_run = []
        self._old_behind = []

    def __enter__(self):
        # The block changes other lists, so the old ones need not be made again.
        self._old_run = self._held._run
        self._old_behind = self._held._behind
        self._held._run = list(self._old_run)
        self._held._behind = list(self._old_behind)
        return self._held

    def __exit__(self, kind, value, trace):
        self._held._run = self._old_run
        self._held._behind = self._old_behind


def under(house, deed):
    """What a function returns, called with a House in a trial of it."""
    if not isinstance(house, House):
        raise OutOfPlace("not a house")
    if deed is None or isinstance(deed, (int, str, bytes, list, tuple, dict)):
        raise OutOfPlace("not a function")
    with house.trial() as held:
        return deed(held)
