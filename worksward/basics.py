"""What the other files share: forms of plain values and of papers, and tables of steps.

A table of steps is a dict. It has, for each node that comes, in the order of the first
rows that lead to them, a dict of the deeds that can be done there, ascending, each with
the node behind it, or with None where that deed leads out of the table.
"""

from worksward.errors import BadPaper, OutOfPlace, TooMany


def is_number(value):
    """Whether it is an integer; True and False are none."""
    return isinstance(value, int) and value is not True and value is not False


def is_below(many, value):
    """Whether it is an integer from 0 to many - 1."""
    return isinstance(value, int) and value is not True and value is not False and 0 <= value < many


def is_tuple(many, value):
    """Whether it is a tuple of so many things."""
    return isinstance(value, tuple) and len(value) == many


def is_tuple_of(least, most, value):
    """Whether it is a tuple with at least and at most so many things."""
    return isinstance(value, tuple) and least <= len(value) <= most


def are_ascending(things):
    """Whether each thing is greater than the one ahead; they must be such as can be compared."""
    for one, other in zip(things, things[1:]):
        if not one < other:
            return False
    return True


def is_row(many, value):
    """Whether it is a tuple, of any length, of integers from 0 to many - 1."""
    if not isinstance(value, tuple):
        return False
    for thing in value:
        if not isinstance(thing, int) or thing is True or thing is False or not 0 <= thing < many:
            return False
    return True


def is_lot(many, value):
    """Whether it is an ascending tuple of integers from 0 to many - 1."""
    if not isinstance(value, tuple):
        return False
    least = 0
    for thing in value:
        if not isinstance(thing, int) or thing is True or thing is False or not least <= thing < many:
            return False
        least = thing + 1
    return True


def is_lot_of(is_one, value):
    """Whether it is an ascending tuple of things of which each is one as told."""
    if not isinstance(value, tuple):
        return False
    for thing in value:
        if not is_one(thing):
            return False
    return are_ascending(value)


def is_list_by(is_key, value):
    """Whether it is an ascending tuple of pairs of a key as told and any thing, no key twice."""
    if not isinstance(value, tuple) or not all([is_tuple(2, thing) and is_key(thing[0]) for thing in value]):
        return False
    return are_ascending([key for key, _ in value])


def need_deeds(deeds):
    """Refuses what is no number of deeds."""
    if not is_number(deeds) or not 1 <= deeds <= 6:
        raise OutOfPlace("deeds is not an integer from 1 to 6")


def need_row(deeds, row):
    """Refuses what is no row of at most 400 deeds."""
    if not is_tuple_of(0, 400, row) or not is_row(deeds, row):
        raise OutOfPlace("not a row of at most 400 deeds")


def need_names(deeds, names):
    """Refuses what is no tuple of all deeds."""
    if not is_row(deeds, names) or sorted(names) != list(range(deeds)):
        raise OutOfPlace("names is not a tuple of all deeds")


def need_paper(paper, sizes):
    """The word of a paper; sizes tells for each word how many things its paper has."""
    if not isinstance(paper, tuple) or len(paper) == 0 or not isinstance(paper[0], str):
        raise BadPaper("form")
    if sizes.get(paper[0]) != len(paper):
        raise BadPaper("form")
    return paper[0]


def need_proof(word, holds):
    """The word of a paper that holds; refuses one that does not."""
    if not holds:
        raise BadPaper(word)
    return word


def lots_of(deeds):
    """All ascending tuples of some of these deeds, which ascend, perhaps of none; as tuples ascend."""
    lots = [()]
    for deed in deeds:
        lots = lots + [lot + (deed,) for lot in lots]
    return sorted(lots)


def spread(first, steps_at, most=100000):
    """The table of steps of all nodes that come from the first one; steps_at gives those of one node.

    It refuses more than so many, and looks at none behind the first one that is too many.
    """
    table = {first: steps_at(first)}
    layer = [first]
    while len(layer) > 0:
        following = []
        for node in layer:
            steps = table[node]
            for target in steps.values():
                if target is not None and target not in table:
                    if len(table) == most:
                        raise TooMany(most)
                    following.append(target)
                    table[target] = steps_at(target)
        layer = following
    return table


def first_rows(table):
    """For each node of a table the first row that leads to it."""
    rows = {}
    for node, steps in table.items():
        if len(rows) == 0:
            rows[node] = ()
        for deed, target in steps.items():
            if target is not None and target not in rows:
                rows[target] = rows[node] + (deed,)
    return rows


def first_out(table):
    """The first row that leads out of a table, or None."""
    for node, steps in table.items():
        for deed, target in steps.items():
            if target is None:
                return first_rows(table)[node] + (deed,)
    return None


def walk(steps_at, first, value):
    """The node to which any value leads as a row, or None if it leads nowhere, or out, or is no row."""
    if not isinstance(value, tuple):
        return None
    node = first
    for deed in value:
        if node is None or not isinstance(deed, int) or deed is True or deed is False:
            return None
        node = steps_at(node).get(deed)
    return node


def walk_far(table, row):
    """As walk(), of a tuple that is long, by a table of steps that has few nodes: by their numbers that takes less."""
    numbers = {node: number for number, node in enumerate(table)}
    ways = []
    for steps in table.values():
        ways.append({deed: numbers[target] for deed, target in steps.items() if target is not None})
    at = 0
    for deed in row:
        if at is None or not isinstance(deed, int) or deed is True or deed is False:
            return None
        at = ways[at].get(deed)
    return None if at is None else list(table)[at]


def leading(table, ends):
    """A dict of the nodes of a table from which some row, perhaps (), leads to one of the ends."""
    sources = {node: [] for node in table}
    for node, steps in table.items():
        for target in steps.values():
            if target in sources:
                sources[target].append(node)
    waiting = [node for node in table if node in ends]
    lot = {node: True for node in waiting}
    while len(waiting) > 0:
        end = waiting.pop()
        for node in sources[end]:
            if node not in lot:
                lot[node] = True
                waiting.append(node)
    return lot


def many_rows(table, length):
    """How many rows of so many deeds the table has, of those that do not lead out."""
    rows = targets_in(table)
    out = len(table)
    counts = [0] * out
    counts[0] = 1
    for _ in range(length):
        longer = [0] * (out + 1)
        for many, row in zip(counts, rows):
            if many > 0:
                for target in row:
                    longer[target] += many
        counts = longer[:out]
    return sum(counts)


def targets_in(table):
    """For each node of a table the numbers of the nodes behind its deeds, one more than all for what leads out."""
    numbers = {node: number for number, node in enumerate(table)}
    numbers[None] = len(table)
    return [[numbers[target] for target in steps.values()] for steps in table.values()]


def numbered(signs):
    """For each of the signs a number, the same one for equal ones; and how many numbers there are."""
    numbers = {}
    found = []
    for sign in signs:
        if sign not in numbers:
            numbers[sign] = len(numbers)
        found.append(numbers[sign])
    return found, len(numbers)


def kinds_of(table, marks):
    """For each node its kind: two have the same one if by all rows they go on alike, and with the same marks.

    Beside them how many kinds there are.
    """
    kinds, many = numbered([(marks[node], *steps) for node, steps in table.items()])
    rows = targets_in(table)
    before = 0
    while before < many < len(table):
        before = many
        kinds.append(-1)
        signs = [(kind, *[kinds[target] for target in row]) for kind, row in zip(kinds, rows)]
        kinds, many = numbered(signs)
    return {node: kind for node, kind in zip(table, kinds)}, many


def merged(table, marks):
    """The table in which the first node of each kind stands for all of its kind."""
    kinds, many = kinds_of(table, marks)
    if many == len(table):
        return table
    firsts = {}
    for node, kind in kinds.items():
        if kind not in firsts:
            firsts[kind] = node
    least = {}
    for node in firsts.values():
        steps = table[node]
        least[node] = {deed: None if to is None else firsts[kinds[to]] for deed, to in steps.items()}
    return least


def plan_of(deeds, table, goals):
    """The PLAN of a table from which nothing leads out; goals are the nodes that are GOALS."""
    numbers = {node: number for number, node in enumerate(table)}
    rows = [tuple([(deed, numbers[node]) for deed, node in steps.items()]) for steps in table.values()]
    return (deeds, tuple(rows), tuple([number for node, number in numbers.items() if node in goals]))


def ranks_from(layer, sources, left):
    """A RANK for each node of a first layer, and for each one that follows: when as many as are left have led to it.

    Sources has for each node those to which it leads; what is left is counted down. RANKS behind are greater.
    """
    ranks = {}
    rank = 0
    while len(layer) > 0:
        following = []
        for node in layer:
            ranks[node] = rank
            for source in sources[node]:
                left[source] -= 1
                if left[source] == 0:
                    following.append(source)
        layer = following
        rank += 1
    return ranks
