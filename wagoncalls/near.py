"""Which places are near by the chart: reached, lost, bare."""


def reached(town, chart, place):
    """The places that a place reaches, in the town's order."""
    begin = town[0].index(place)
    reach = town[3]
    return [name for name, row in zip(town[0], chart) if _is_near(row[begin], reach)]


def lost(town, chart):
    """The places that no stand reaches, in the town's order."""
    return bare(town, chart, town[2])


def bare(town, chart, posts):
    """The places that none of the posts reaches, in the town's order."""
    near = [name for post in posts for name in reached(town, chart, post)]
    return [name for name in town[0] if name not in near]


def _is_near(minutes, reach):
    return minutes is not None and minutes <= reach


class Near:
    """Which place reaches which by one chart, worked out once for the many questions of a search."""

    def __init__(self, town, chart):
        lost_places = lost(town, chart)
        self.goals = [place for place in town[0] if place not in lost_places]
        self.table = {place: {goal: True for goal in reached(town, chart, place)} for place in town[0]}

    def reaches(self, post, place):
        """Whether a place is reached from a post."""
        return place in self.table[post]

    def lacking(self, posts):
        """The places that some stand reaches, but none of the posts: where there are none, the posts cover."""
        found = {}
        for post in posts:
            found.update(self.table[post])
        return [place for place in self.goals if place not in found]
