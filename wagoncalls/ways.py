"""Roads that are open, ways by them, and the chart of the least minutes."""

from wagoncalls.words import is_within


def chart_of(town, shut):
    """The chart: for each goal by number a row with the least minutes from each place."""
    drives = drives_of(town, shut)
    many = len(town[0])
    return tuple([_least_minutes(drives, many, goal) for goal in range(many)])


def first_road(town, shut, chart, one, other):
    """The least number of a road that begins a way of the least minutes; None where there is none."""
    place = town[0].index(one)
    row = chart[town[0].index(other)]
    for drive in drives_of(town, shut):
        if drive[1] == place and is_least(row, drive):
            return drive[0]
    return None


def way(town, shut, one, other):
    """The first one, as tuples are ordered, of the ways of the least minutes; None where there is no way."""
    chart = chart_of(town, shut)
    numbers = []
    place = one
    while place != other:
        number = first_road(town, shut, chart, place, other)
        if number is None:
            return None
        numbers.append(number)
        place = led_to(town, number, place)[0]
    return tuple(numbers)


def is_way(town, shut, one, other, thing):
    """Whether a thing is a way from the one place to the other."""
    if not isinstance(thing, tuple):
        return False
    place = one
    for number in thing:
        if not is_within(number, 0, len(town[1]) - 1) or number in shut:
            return False
        led = led_to(town, number, place)
        if led is None:
            return False
        place = led[0]
    return place == other


def minutes_of(town, one, roads):
    """The minutes of a way from a place."""
    total = 0
    place = one
    for number in roads:
        place, minutes = led_to(town, number, place)
        total += minutes
    return total


def led_to(town, number, place):
    """The place to which a road is driven from a place, and the minutes; None where it isn't."""
    one, other, there, back = town[1][number]
    if place == one and there is not None:
        return other, there
    if place == other and back is not None:
        return one, back
    return None


def drives_of(town, shut):
    """Each open road in each direction: a list of tuples (road, begin, end, minutes), the roads rising."""
    places = town[0]
    drives = []
    for number, (one, other, there, back) in enumerate(town[1]):
        if number in shut:
            continue
        if there is not None:
            drives.append((number, places.index(one), places.index(other), there))
        if back is not None:
            drives.append((number, places.index(other), places.index(one), back))
    return drives


def is_steep(row, drive):
    """Whether a drive betters what a chart's row has for where the drive begins."""
    _, begin, end, minutes = drive
    if row[end] is None:
        return False
    return row[begin] is None or row[begin] > row[end] + minutes


def is_least(row, drive):
    """Whether a drive takes just what a chart's row has for its beginning more than for its end."""
    _, begin, end, minutes = drive
    return row[end] is not None and row[begin] == row[end] + minutes


def _least_minutes(drives, many, goal):
    row = [None] * many
    row[goal] = 0
    # A way of the least minutes comes to no place twice, so as many rounds as places do.
    for _ in range(many):
        for drive in drives:
            if is_steep(row, drive):
                row[drive[1]] = row[drive[2]] + drive[3]
    return tuple(row)
