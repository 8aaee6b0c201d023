"""What a town is: a tuple (places, roads, stands, reach)."""

from wagoncalls.words import is_name, is_within

MOST_PLACES = 10
MOST_ROADS = 18
MOST_STANDS = 5
MOST_MINUTES = 60
MOST_REACH = 120


def is_town(thing):
    """Whether a thing is a town."""
    if not isinstance(thing, tuple) or len(thing) != 4:
        return False
    places, roads, stands, reach = thing
    return (
        _are_places(places)
        and _are_roads(places, roads)
        and _are_stands(places, stands)
        and is_within(reach, 0, MOST_REACH)
    )


def is_road(places, thing):
    """Whether a thing is a road between two of these places."""
    if not isinstance(thing, tuple) or len(thing) != 4:
        return False
    one, other, there, back = thing
    if one not in places or other not in places or one == other:
        return False
    if there is None and back is None:
        return False
    return _is_drive(there) and _is_drive(back)


def _is_drive(thing):
    return thing is None or is_within(thing, 1, MOST_MINUTES)


def _are_places(thing):
    if not isinstance(thing, tuple) or not 1 <= len(thing) <= MOST_PLACES:
        return False
    return all(is_name(place) for place in thing) and _are_unlike(thing)


def _are_roads(places, thing):
    if not isinstance(thing, tuple) or len(thing) > MOST_ROADS:
        return False
    return all(is_road(places, road) for road in thing)


def _are_stands(places, thing):
    if not isinstance(thing, tuple) or not 1 <= len(thing) <= MOST_STANDS:
        return False
    return all(stand in places for stand in thing) and _are_unlike(thing)


def _are_unlike(names):
    return len(set(names)) == len(names)
