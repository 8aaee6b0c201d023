"""Which places are near by the chart: reached, lost, bare."""


def reached(town, chart, place):
    """The places that a place reaches, in the town's order."""
    begin = town[0].index(place)
    reach = town[3]
    return [name for name, row in zip(town[0], chart) if _is_near(row[begin], reach)]


def lost(town, chart):
    """The places that no stand reaches, in the town's order."""
    return bare(town, chart, town[2])


def bare(town, chart, posts):
    """The places that none of the posts reaches, in the town's order."""
    near = [name for post in posts for name in reached(town, chart, post)]
    return [name for name in town[0] if name not in near]


def _is_near(minutes, reach):
    return minutes is not None and minutes <= reach
