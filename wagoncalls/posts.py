"""The fewest posts that cover."""

from wagoncalls.choices import StandChoices
from wagoncalls.seeking import fewest_choices


def fewest_posts(town, chart):
    """A tuple (posts, tree): the fewest stands that cover, and a tree that shows them."""
    stands = town[2]
    # All stands cover together, so some numbers are always found.
    numbers, tree = fewest_choices(StandChoices(town, chart), len(stands))
    return tuple([stands[number] for number in numbers]), tree
