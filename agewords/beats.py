"""Looks at a steady beat, and what they tell of when something happened."""

from agewords.wordings import demand_steady
from agewords.zones import Zone, lesser, zones_of


class Beat:
    """Looks at first, first + step and so on: number of them, or without end if it is None."""

    def __init__(self, first, step, number):
        self.first = first
        self.step = step
        self.number = number


class Nearest:
    """How near looks have come to edges: past the nearest one and ahead of the nearest one, None for no edge."""

    def __init__(self):
        self.past = None
        self.ahead = None

    def take(self, run):
        """Take in the looks of a run, which is behind all runs taken in so far."""
        if run.is_past:
            self.past = lesser(self.past, run.least_distance())
        else:
            self.ahead = lesser(self.ahead, run.least_distance())

    def first_within(self, run, width):
        """The number of the first look of a run from which on at most width events look the same, or None."""
        other = self.ahead if run.is_past else self.past
        return None if other is None else run.first_within(width - other)


def known(wording, beat, event):
    """The stretch of all events of which the looks of a beat show the same as of this one."""
    demand_steady(wording)
    nearest = Nearest()
    for run in beat_runs(wording, beat, event):
        nearest.take(run)
    low = None if nearest.ahead is None else event - nearest.ahead + 1
    high = None if nearest.past is None else event + nearest.past
    return (low, high)


def needed(wording, beat, event, width):
    """The least number of first looks of a beat for which known has at most width moments, or None."""
    demand_steady(wording)
    nearest = Nearest()
    for run in beat_runs(wording, beat, event):
        look = nearest.first_within(run, width)
        if look is not None:
            return look + 1
        nearest.take(run)
    return None


def beat_runs(wording, beat, event):
    """The runs of the looks of a beat at an event, ascending by their looks."""
    # Two events are told apart by a look between them as if the age 0 were an edge: an age below 0 is ahead of it.
    zones = [Zone(None, -1, None, None, 0, None)]
    for more in zones_of(wording):
        zones.extend(more)
    runs = []
    for zone in zones:
        runs.extend(zone.runs(beat.first - event, beat.step, beat.number))
    return runs
