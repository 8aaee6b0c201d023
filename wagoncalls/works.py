"""The work of one moment, step by step."""

from wagoncalls.doings import scene_behind, why_passed
from wagoncalls.near import bare
from wagoncalls.sending import cut_off, sendings
from wagoncalls.tellings import in_order
from wagoncalls.wagons import FREE, far, named, with_post, with_task
from wagoncalls.ways import first_road, led_to


def worked(town, state, moment, tellings, papers):
    """A tuple (events, state): the work of a moment, by the chart and the plan that the papers have for it."""
    work = Work(town, state, moment)
    work.arrive()
    work.hear(tellings)
    chart = papers.chart_for(moment, work.shut)
    work.send(chart)
    work.hold(chart)
    plan = papers.plan_for(moment, chart, work.free_rows(chart))
    work.move(chart, plan)
    work.drive(chart)
    return work.events, work.behind()


class Work:
    """What stands amid the work of a moment; each step adds its events."""

    def __init__(self, town, state, moment):
        _, shut, wagons, calls, bare_told = state
        self.shut = shut
        self.events = []
        self._town = town
        self._moment = moment
        self._wagons = wagons
        self._calls = calls
        self._bare_told = bare_told

    def arrive(self):
        """Those that come to a place in this moment are there, or stand."""
        self._wagons = [self._arrived(wagon) if wagon[4] == self._moment else wagon for wagon in self._wagons]

    def hear(self, tellings):
        """Each telling is done or passed over."""
        scene = (self.shut, self._wagons, self._calls)
        for telling in in_order(tellings):
            why = why_passed(scene, telling)
            if why is None:
                scene = scene_behind(scene, self._moment, telling)
                self._add("told", telling)
            else:
                self._add("passed", telling, why)
        self.shut, self._wagons, self._calls = scene

    def send(self, chart):
        """Wagons without a way to their calls are cut off, then wagons are sent."""
        cut, wagons = cut_off(self._town, chart, self._wagons, self._calls)
        for wagon, call in cut:
            self._add("cut", wagon, call)
        sent, self._wagons = sendings(self._town, chart, self._moment, wagons, self._calls)
        for call, wagon, left in sent:
            self._add("sent", call, wagon, left)

    def hold(self, chart):
        """Free wagons without a way to their posts are posted where they are."""
        self._wagons = [self._held(chart, wagon) for wagon in self._wagons]

    def free_rows(self, chart):
        """The free rows: of each free wagon the name, the post, and the stands to which it has a way."""
        rows = []
        for wagon in self._wagons:
            if wagon[5] == FREE:
                can = tuple([stand for stand in self._town[2] if self._has_way(chart, wagon, stand)])
                rows.append((wagon[0], wagon[2], can))
        return rows

    def move(self, chart, plan):
        """The moves of a plan are done; places that are bare now are told where they are others than before."""
        for name, stand in plan or []:
            self._wagons = [with_post(wagon, stand) if wagon[0] == name else wagon for wagon in self._wagons]
            self._add("moved", name, stand)
        places = tuple(bare(self._town, chart, [wagon[2] for wagon in self._wagons if wagon[5] == FREE]))
        if places != self._bare_told:
            self._bare_told = places
            self._add("bare", places)

    def drive(self, chart):
        """Of those that stand at a place, some are there at once, then the others drive on to their goals."""
        self._wagons = [self._there(wagon) if self._stands(wagon) else wagon for wagon in self._wagons]
        self._wagons = [self._gone(chart, wagon) if self._stands(wagon) else wagon for wagon in self._wagons]

    def behind(self):
        """The state behind the work."""
        return self._moment, self.shut, tuple(self._wagons), tuple(self._calls), self._bare_told

    def _add(self, *parts):
        self.events.append((self._moment, *parts))

    def _stands(self, wagon):
        return wagon[4] <= self._moment

    def _has_way(self, chart, wagon, place):
        return far(self._town, chart, self._moment, wagon, place) is not None

    def _arrived(self, wagon):
        name, _, post, place, _, task = wagon
        if task != FREE:
            return self._there(wagon)
        if place == post:
            self._add("stands", name, place)
        return wagon

    def _there(self, wagon):
        """The wagon, at its call if it is to one at its place."""
        name, _, _, place, _, task = wagon
        if task[0] != "to" or named(self._calls, task[1])[1] != place:
            return wagon
        self._add("there", name, task[1])
        return with_task(wagon, ("at", task[1]))

    def _held(self, chart, wagon):
        name, _, post, place, _, task = wagon
        if task != FREE or self._has_way(chart, wagon, post):
            return wagon
        self._add("held", name, place)
        return with_post(wagon, place)

    def _gone(self, chart, wagon):
        """The wagon, on the first road to its goal if this is another place."""
        name, home, post, place, _, task = wagon
        goal = post if task == FREE else named(self._calls, task[1])[1]
        # Of one that is at a call the goal is where it stands, and no road leads there.
        road = first_road(self._town, self.shut, chart, place, goal)
        if road is None:
            return wagon
        end, minutes = led_to(self._town, road, place)
        self._add("drives", name, road, end, self._moment + minutes)
        return name, home, post, end, self._moment + minutes, task
