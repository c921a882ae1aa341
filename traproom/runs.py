"""Live runs: the cues that hands call, one after the other, and what is left of a show then."""

from traproom.errors import BadCall
from traproom.kinds import is_index
from traproom.moves import position
from traproom.ratios import Ratio, is_less


class Run:
    """A run of a show: which cues were called, and when."""

    def __init__(self, show):
        self._show = show
        self._times = [None] * len(show[0])
        self._latest = None

    def can_call(self, cue, time):
        """Return True if this cue can be called at this time, otherwise False; also for integers that are no cue."""
        if not is_index(cue, len(self._times)) or not self._is_waiting(cue):
            return False
        if self._latest is not None and is_less(time, self._latest):
            return False
        return not is_less(time, self._begin(cue) + self._show[0][cue][1]) and self.late(time) == []

    def call(self, cue, time):
        """Call a cue; raise BadCall if it can't be called, and leave the run as it was."""
        if not self.can_call(cue, time):
            raise BadCall("this cue can't be called at this time")
        self._times[cue] = time
        self._latest = time

    def called(self):
        """Return the list of the pairs of a cue that was called and its time, ascending by cue."""
        return [(cue, time) for cue, time in enumerate(self._times) if time is not None]

    def late(self, time):
        """Return the ascending list of the cues that could be called before this time, but no more at it."""
        found = []
        for cue, (_, _, most) in enumerate(self._show[0]):
            if self._is_waiting(cue) and is_less(self._begin(cue) + most, time):
                found.append(cue)
        return found

    def where(self, machine, time):
        """Return the position of a machine at a time from 0 to that of the last call; raise BadCall for others."""
        if self._latest is None or is_less(time, Ratio(0)) or is_less(self._latest, time):
            raise BadCall("a run tells positions from the time 0 to that of the last call")
        total, _, acts = self._show[1][machine]
        for cue, move in acts:
            # A cue that was not called yet will not be called before the last call.
            if self._times[cue] is not None:
                total = total + position(move, time - self._times[cue])
        return total

    def left(self):
        """Return the show in which the waits of the called cues are those that they have had."""
        sheet, machines, rules = self._show
        return (tuple([self._left_of(index, cue) for index, cue in enumerate(sheet)]), machines, rules)

    def copy(self):
        """Return a run that behaves as this one, and is independent of it."""
        other = Run(self._show)
        other._times = list(self._times)
        other._latest = self._latest
        return other

    def _begin(self, cue):
        """Return the time from which a cue waits: that of its parent, 0 without one, None if it was not called."""
        parent = self._show[0][cue][0]
        return Ratio(0) if parent == -1 else self._times[parent]

    def _is_waiting(self, cue):
        return self._times[cue] is None and self._begin(cue) is not None

    def _left_of(self, index, cue):
        """Return a cue of the show that is left."""
        if self._times[index] is None:
            return cue
        wait = self._times[index] - self._begin(index)
        return (cue[0], wait, wait)
