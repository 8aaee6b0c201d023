"""What may be chosen, one behind the other, until posts cover: stands, or moves of wagons.

Both kinds are asked alike, so that one search and one checker do for both. What is chosen is a list of options, each
a tuple: (stand,) or (wagon, stand).
"""

from wagoncalls.near import Near


class StandChoices:
    """Stands chosen as posts."""

    def __init__(self, town, chart):
        self.near = Near(town, chart)
        self.stands = town[2]

    def lacking(self, chosen):
        """The places, but lost ones, that no chosen stand reaches."""
        return self.near.lacking([option[0] for option in chosen])

    def options(self, chosen, place):
        """What may be chosen for a place that lacks: none of the chosen is among it, as they don't reach the place."""
        return [(stand,) for stand in self.stands if self.near.reaches(stand, place)]

    def ordered(self, chosen):
        """The chosen as they are compared: numbers of stands, rising."""
        return sorted([self.stands.index(option[0]) for option in chosen])


class MoveChoices:
    """Moves chosen for the wagons of free rows."""

    def __init__(self, town, chart, rows):
        self.near = Near(town, chart)
        self.rows = list(rows)

    def lacking(self, chosen):
        """The places, but lost ones, that no post behind the chosen moves reaches."""
        return self.near.lacking(posts_behind(self.rows, chosen))

    def options(self, chosen, place):
        """The moves that may be chosen for a place."""
        moved = dict(chosen)
        return [
            (wagon, stand)
            for wagon, post, can in self.rows
            if wagon not in moved
            for stand in can
            if stand != post and self.near.reaches(stand, place)
        ]

    def ordered(self, chosen):
        """The chosen as they are compared: moves, rising."""
        return sorted(chosen)


def posts_behind(rows, moves):
    """The posts that the wagons of free rows have behind moves, in the rows' order."""
    moved = dict(moves)
    return [moved.get(wagon, post) for wagon, post, can in rows]
