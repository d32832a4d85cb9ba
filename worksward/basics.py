"""What the other files share: forms of plain values and of papers, and tables of steps.

A table of steps is a dict. It has, for each node that comes, in the order of the first
rows that lead to them, a dict of the deeds that can be done there, ascending, each with
the node behind it, or with None where that deed leads out of the table.
"""

from worksward.errors import BadPaper, OutOfPlace


def is_number(value):
    """Whether it is an integer; True and False are none."""
    return isinstance(value, int) and not isinstance(value, bool)


def is_below(many, value):
    """Whether it is an integer from 0 to many - 1."""
    return is_number(value) and 0 <= value < many


def is_tuple(many, value):
    """Whether it is a tuple of so many things."""
    return isinstance(value, tuple) and len(value) == many


def is_tuple_of(least, most, value):
    """Whether it is a tuple with at least and at most so many things."""
    return isinstance(value, tuple) and least <= len(value) <= most


def are_ascending(things):
    """Whether each thing is greater than the one ahead; they must be such as can be compared."""
    return all([one < other for one, other in zip(things, things[1:])])


def is_row(many, value):
    """Whether it is a tuple, of any length, of integers from 0 to many - 1."""
    return isinstance(value, tuple) and all([is_below(many, thing) for thing in value])


def is_lot(many, value):
    """Whether it is an ascending tuple of integers from 0 to many - 1."""
    return is_row(many, value) and are_ascending(value)


def is_lot_of(is_one, value):
    """Whether it is an ascending tuple of things of which each is one as told."""
    return isinstance(value, tuple) and all([is_one(thing) for thing in value]) and are_ascending(value)


def is_list_by(is_key, value):
    """Whether it is an ascending tuple of pairs of a key as told and any thing, no key twice."""
    if not isinstance(value, tuple) or not all([is_tuple(2, thing) and is_key(thing[0]) for thing in value]):
        return False
    return are_ascending([key for key, _ in value])


def need_deeds(deeds):
    """Refuses what is no number of deeds."""
    if not is_number(deeds) or not 1 <= deeds <= 6:
        raise OutOfPlace("deeds is not an integer from 1 to 6")


def need_row(deeds, row):
    """Refuses what is no row of at most 400 deeds."""
    if not is_tuple_of(0, 400, row) or not is_row(deeds, row):
        raise OutOfPlace("not a row of at most 400 deeds")


def need_names(deeds, names):
    """Refuses what is no tuple of all deeds."""
    if not is_row(deeds, names) or sorted(names) != list(range(deeds)):
        raise OutOfPlace("names is not a tuple of all deeds")


def need_paper(paper, sizes):
    """The word of a paper; sizes tells for each word how many things its paper has."""
    if not isinstance(paper, tuple) or len(paper) == 0 or not isinstance(paper[0], str):
        raise BadPaper("form")
    if sizes.get(paper[0]) != len(paper):
        raise BadPaper("form")
    return paper[0]


def need_proof(word, holds):
    """The word of a paper that holds; refuses one that does not."""
    if not holds:
        raise BadPaper(word)
    return word


def spread(first, steps_at):
    """The table of steps of all nodes that come from the first one; steps_at gives those of one node."""
    table = {first: steps_at(first)}
    queue = [first]
    at = 0
    while at < len(queue):
        for node in list(table[queue[at]].values()):
            if node is not None and node not in table:
                table[node] = steps_at(node)
                queue.append(node)
        at += 1
    return table


def first_rows(table):
    """For each node of a table the first row that leads to it."""
    rows = {}
    for node, steps in table.items():
        if len(rows) == 0:
            rows[node] = ()
        for deed, target in steps.items():
            if target is not None and target not in rows:
                rows[target] = rows[node] + (deed,)
    return rows


def first_out(table):
    """The first row that leads out of a table, or None."""
    rows = first_rows(table)
    for node, steps in table.items():
        for deed, target in steps.items():
            if target is None:
                return rows[node] + (deed,)
    return None


def walk(table, first, value):
    """The node to which any value leads as a row, or None if it leads nowhere, or out, or is no row."""
    if not isinstance(value, tuple):
        return None
    node = first
    for deed in value:
        if node is None or not is_number(deed):
            return None
        node = table[node].get(deed)
    return node


def leading(table, ends):
    """A dict of the nodes of a table from which some row, perhaps (), leads to one of the ends."""
    lot = {node: True for node in table if node in ends}
    before = -1
    while before < len(lot):
        before = len(lot)
        for node, steps in table.items():
            if any([target in lot for target in list(steps.values())]):
                lot[node] = True
    return lot


def numbered(signs):
    """For each key of a dict a number, the same one for those with the same sign."""
    numbers = {}
    return {key: numbers.setdefault(sign, len(numbers)) for key, sign in signs.items()}


def kinds_of(table, marks):
    """For each node its kind: two have the same one if by all rows they go on alike, and with the same marks."""
    kinds = numbered(marks)
    before = 0
    while before < 1 + max(kinds.values()):
        before = 1 + max(kinds.values())
        signs = {}
        for node, steps in table.items():
            signs[node] = (kinds[node], tuple([(deed, kinds.get(target, -1)) for deed, target in steps.items()]))
        kinds = numbered(signs)
    return kinds


def merged(table, marks):
    """The table in which the first node of each kind stands for all of its kind."""
    kinds = kinds_of(table, marks)
    firsts = {}
    for node in table:
        firsts.setdefault(kinds[node], node)
    least = {}
    for node in list(firsts.values()):
        steps = table[node]
        least[node] = {deed: firsts.get(kinds.get(target, -1)) for deed, target in steps.items()}
    return least


def plan_of(deeds, table, goals):
    """The PLAN of a table from which nothing leads out; goals are the nodes that are GOALS."""
    numbers = {node: number for number, node in enumerate(table)}
    rows = tuple([tuple([(deed, numbers[node]) for deed, node in steps.items()]) for steps in table.values()])
    return (deeds, rows, tuple([number for node, number in numbers.items() if node in goals]))
