"""A day: tellings are told to it, and it goes on from moment to moment."""

from wagoncalls.errors import Late, NoCall, NoLog, NoMoment, NoTelling, NoTown, TooMany
from wagoncalls.logs import log_in_order
from wagoncalls.moments import due_at
from wagoncalls.papers import SoughtPapers
from wagoncalls.tellings import is_telling
from wagoncalls.towns import is_town
from wagoncalls.wagons import named, served_by
from wagoncalls.walks import events_of, state_behind, works_behind
from wagoncalls.words import is_moment

MOST_TELLINGS = 100


class Day:
    """The day of a town."""

    # The works are kept, so that a question works nothing again; they are always those of the whole log until now.
    # The log and the works are tuples: what is kept of them elsewhere stays as it is.

    def __init__(self, town):
        if not is_town(town):
            raise NoTown("this is no town")
        self._town = town
        self._log = ()
        self._now = None
        self._works = ()

    def tell(self, moment, telling):
        """A telling for a moment later than now: whether the log hasn't it yet."""
        _let_row(self._town, moment, telling)
        if self._now is not None and moment <= self._now:
            raise Late("the moment isn't later than now")
        return self._put_in(moment, telling)

    def go_to(self, moment):
        """The events until a moment, which is now from then on."""
        if not is_moment(moment) or self._now is not None and moment < self._now:
            raise NoMoment("to this moment the day doesn't go on")
        works = self._works_behind(self._works, moment)
        self._now = moment
        self._works = (*self._works, *works)
        return events_of(works)

    def amend(self, moment, telling):
        """A telling is put in for whatever moment: a tuple of the events that are gone and those that come."""
        _let_row(self._town, moment, telling)
        before = self.story()
        if self._put_in(moment, telling):
            self._work_again(moment)
        return _unlike_ends(before, self.story())

    def strike(self, moment, telling):
        """A telling is taken out: a tuple of the events that are gone and those that come."""
        if not _is_row(self._town, moment, telling) or (moment, telling) not in self._log:
            raise NoLog("the log hasn't this")
        before = self.story()
        self._log = tuple([row for row in self._log if row != (moment, telling)])
        self._work_again(moment)
        return _unlike_ends(before, self.story())

    def town(self):
        """The town."""
        return self._town

    def log(self):
        """What was told, sorted."""
        return log_in_order(self._log)

    def now(self):
        """The moment to which the day has gone on, None where it hasn't yet."""
        return self._now

    def story(self):
        """The events until now."""
        return events_of(self._works)

    def state(self):
        """The state until now."""
        return state_behind(self._works)

    def state_at(self, moment):
        """The state as it stood at a moment."""
        if not is_moment(moment) or self._now is None or moment > self._now:
            raise NoMoment("the day hasn't come to this moment")
        return state_behind([work for work in self._works if work[1][0] <= moment])

    def wagons(self):
        """The names of the wagons on duty."""
        return [wagon[0] for wagon in self.state()[2]]

    def served(self, name):
        """How a call stands: a tuple of `waits`, `to` or `at`, and the wagon's name or None."""
        self._let_call(name)
        return served_by(self.state()[2], name)

    def due(self, name):
        """The moment at which a call is due, None where no wagon is to it."""
        self._let_call(name)
        return due_at(self._town, self.state(), name)

    def kept(self):
        """What the day is now, for put_back."""
        return self._log, self._now, self._works

    def put_back(self, kept):
        """The day is again what it was when this was kept."""
        self._log, self._now, self._works = kept

    def _put_in(self, moment, telling):
        """Whether the log hasn't a tuple yet; it has it then."""
        if (moment, telling) in self._log:
            return False
        if len(self._log) >= MOST_TELLINGS:
            raise TooMany("the log has a hundred tellings")
        self._log = (*self._log, (moment, telling))
        return True

    def _work_again(self, moment):
        """The works from a moment on are done anew, by the log as it is now."""
        if self._now is not None:
            ahead = [work for work in self._works if work[1][0] < moment]
            self._works = (*ahead, *self._works_behind(ahead, self._now))

    def _works_behind(self, works, until):
        return works_behind(self._town, state_behind(works), self._log, until, SoughtPapers(self._town))

    def _let_call(self, name):
        if named(self.state()[3], name) is None:
            raise NoCall(name)


def _let_row(town, moment, telling):
    if not is_moment(moment):
        raise NoMoment("this is no moment")
    if not is_telling(town, telling):
        raise NoTelling("this is no telling of the town")


def _is_row(town, moment, telling):
    return is_moment(moment) and is_telling(town, telling)


def _unlike_ends(one, other):
    """What two stories have from the first event on in which they aren't alike."""
    same = 0
    while same < min(len(one), len(other)) and one[same] == other[same]:
        same += 1
    return one[same:], other[same:]
