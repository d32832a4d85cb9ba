"""THINGS and their texts."""

from worksward.errors import BadText, OutOfPlace

# What has at most 31 figures is less.
LIMIT = 10000000000000000000000000000000
# The texts of what is no integer, no word and no tuple.
SIGNS = {".": None, "+": True, "-": False}


def is_thing(value):
    """Whether any value is a THING."""
    layer = [value]
    many = 1
    for _ in range(21):
        following = []
        for part in layer:
            if isinstance(part, tuple):
                many += len(part)
                if many > 4000:
                    return False
                following += part
            elif not _is_plain(part):
                return False
        layer = following
    return len(layer) == 0


def _is_plain(value):
    """Whether any value that is no tuple is a THING."""
    if isinstance(value, int):
        return -LIMIT < value < LIMIT
    return value is None or isinstance(value, str) and _is_word(value)


def _is_word(string):
    return 1 <= len(string) <= 12 and string.isascii() and string.isalpha() and string.islower()


def thing_text(thing):
    """The text of a THING."""
    if not is_thing(thing):
        raise OutOfPlace("not a thing")
    return _text_of(thing)


def _text_of(thing):
    if isinstance(thing, tuple):
        inner = " ".join([_text_of(part) for part in thing])
        return f"({inner})"
    if thing is None:
        return "."
    if thing is True:
        return "+"
    return "-" if thing is False else f"{thing}"


def read_thing(string):
    """The THING that a text writes."""
    if not isinstance(string, str):
        raise BadText(0)
    found = _read(string)
    if found is None:
        raise BadText(1)
    return found[0]


def _read(string):
    """A tuple of the THING that a text writes alone; None if it writes none.

    Between blanks there are signs that begin tuples, a plain THING or nothing, and signs that end tuples.
    """
    known = {sign: (thing,) for sign, thing in SIGNS.items()}
    many = 0
    # The first list is for the whole; behind it stand the tuples that are not ended.
    lists = [[]]
    for part in string.split(" "):
        core = part.lstrip("(")
        word = core.rstrip(")")
        begun = len(part) - len(core)
        ended = len(core) - len(word)
        # What is in the first list is whole.
        if len(lists[0]) > 0 or len(lists) + begun > 22 - len(word[:1]):
            return None
        lists += [[] for _ in range(begun)]
        many += begun + len(word[:1])
        if word == "":
            # Only a tuple of nothing has nothing between its signs.
            if begun == 0 or ended == 0:
                return None
        else:
            if word not in known:
                known[word] = _plain_of(word)
            if known[word] is None:
                return None
            lists[-1].append(known[word][0])
        if ended >= len(lists):
            return None
        for _ in range(ended):
            inner = tuple(lists.pop())
            lists[-1].append(inner)
    return tuple(lists[0]) if len(lists) == 1 and many <= 4000 else None


def _plain_of(word):
    """A tuple of the integer or the word that a text writes; None if it writes none."""
    if _is_word(word):
        return (word,)
    figures = word[1:] if word.startswith("-") else word
    if not figures.isascii() or not figures.isdigit() or len(figures) > 31:
        return None
    if figures.startswith("0") and word != "0":
        return None
    return (int(word),)
