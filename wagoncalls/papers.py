"""What the work of a moment takes its chart and its plan from, where they are sought."""

from wagoncalls.plans import least_plan
from wagoncalls.ways import chart_of


class SoughtPapers:
    """Charts and least plans, sought; the sheets of the works are kept."""

    def __init__(self, town):
        self.sheets = []
        self._town = town
        self._charts = {}

    def chart_for(self, moment, shut):
        """The chart of a moment's work."""
        # Most works have the roads of the work ahead of them.
        if shut not in self._charts:
            self._charts[shut] = chart_of(self._town, shut)
        return self._charts[shut]

    def plan_for(self, moment, chart, rows):
        """The least plan of a moment's work, None where there is none."""
        plan, tree = least_plan(self._town, chart, rows)
        self.sheets.append((moment, chart, plan, tree))
        return plan
