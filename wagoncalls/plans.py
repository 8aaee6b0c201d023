"""The least plan by which free wagons are moved."""

from wagoncalls.choices import MoveChoices
from wagoncalls.seeking import fewest_choices


def least_plan(town, chart, rows):
    """A tuple (plan, tree): the least plan of free rows, None where there is none, and a tree that shows it."""
    return fewest_choices(MoveChoices(town, chart, rows), len(rows))
