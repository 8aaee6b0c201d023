"""Towns written as rows, and read back."""

from wagoncalls.errors import NoText
from wagoncalls.towns import MOST_MINUTES, MOST_PLACES, MOST_REACH, MOST_ROADS, MOST_STANDS, is_road
from wagoncalls.words import is_name, number_by

NONE_TEXT = "-"


def town_text(town):
    """The text of a town."""
    places, roads, stands, reach = town
    rows = [f"place {place}" for place in places]
    for one, other, there, back in roads:
        rows.append(f"road {one} {other} {_drive_text(there)} {_drive_text(back)}")
    for stand in stands:
        rows.append(f"stand {stand}")
    rows.append(f"reach {reach}")
    return "\n".join(rows)


def town_by(text):
    """The town that a text is; NoText of anything else."""
    if not isinstance(text, str):
        raise NoText(0)
    rows = text.split("\n")
    places = []
    roads = []
    stands = []
    reaches = []
    for at, row in enumerate(rows):
        # Behind the reach nothing may come, whatever it is.
        if reaches or not _taken(places, roads, stands, reaches, row.split(" ")):
            raise NoText(at)
    if not reaches:
        raise NoText(len(rows))
    return tuple(places), tuple(roads), tuple(stands), reaches[0]


def _taken(places, roads, stands, reaches, words):
    """Whether a town's text may go on with a row of these words; if so, its thing is added."""
    if words[0] == "place" and len(words) == 2:
        return not roads and not stands and _taken_place(places, words[1])
    if words[0] == "road" and len(words) == 5:
        return not stands and _taken_road(places, roads, words)
    if words[0] == "stand" and len(words) == 2:
        return _taken_stand(places, stands, words[1])
    if words[0] == "reach" and len(words) == 2 and stands:
        return _taken_reach(reaches, words[1])
    return False


def _taken_place(places, word):
    if len(places) == MOST_PLACES or not is_name(word) or word in places:
        return False
    places.append(word)
    return True


def _taken_road(places, roads, words):
    if len(roads) == MOST_ROADS:
        return False
    _, one, other, there, back = words
    road = (one, other, _drive_by(there), _drive_by(back))
    if not is_road(places, road):
        return False
    roads.append(road)
    return True


def _taken_stand(places, stands, word):
    if len(stands) == MOST_STANDS or word not in places or word in stands:
        return False
    stands.append(word)
    return True


def _taken_reach(reaches, word):
    number = number_by(word, MOST_REACH)
    if number is None:
        return False
    reaches.append(number)
    return True


def _drive_text(minutes):
    return NONE_TEXT if minutes is None else str(minutes)


def _drive_by(word):
    """The minutes that a word is, None for the sign of None; 0, which no road takes, for others."""
    if word == NONE_TEXT:
        return None
    number = number_by(word, MOST_MINUTES)
    return 0 if number is None else number
