"""What may be told of a town, and the order in which tellings go."""

from wagoncalls.words import is_grade, is_name, is_within

# The words of tellings, in the order in which they go, each with the kinds of its other parts.
PARTS = {
    "open": ("road",),
    "shut": ("road",),
    "done": ("name",),
    "off": ("name",),
    "on": ("name", "stand"),
    "grade": ("name", "grade"),
    "call": ("name", "place", "grade"),
}


def is_telling(town, thing):
    """Whether a thing is a telling of a town."""
    if not isinstance(thing, tuple) or not thing:
        return False
    word = thing[0]
    if not isinstance(word, str) or word not in PARTS:
        return False
    kinds = PARTS[word]
    if len(thing) != 1 + len(kinds):
        return False
    return all([_is_part(town, kind, part) for kind, part in zip(kinds, thing[1:])])


def in_order(tellings):
    """The tellings of a list, each once, as they go."""
    return each_once(sorted(tellings, key=as_it_goes))


def as_it_goes(telling):
    """What tellings are sorted by: the place of the first word, then the telling."""
    return list(PARTS).index(telling[0]), telling


def each_once(rows):
    """The rows of a sorted list, each once."""
    return [row for at, row in enumerate(rows) if at == 0 or row != rows[at - 1]]


def _is_part(town, kind, thing):
    if kind == "road":
        return is_within(thing, 0, len(town[1]) - 1)
    if kind == "name":
        return is_name(thing)
    if kind == "stand":
        return thing in town[2]
    if kind == "place":
        return thing in town[0]
    return is_grade(thing)
