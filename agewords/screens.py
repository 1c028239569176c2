"""Screens that word anew after told waits: what they show, how late they are and what they skip."""

from math import gcd

from agewords.errors import BadAge, BadRow
from agewords.wordings import demand_age, demand_steady
from agewords.zones import zones_of


class Screen:
    """A wording with the wait of each of its rows."""

    def __init__(self, wording, waits):
        self.wording = wording
        self.waits = tuple(waits)

    def worded(self, start, age):
        """The greatest age at which the screen words that is at most the age."""
        demand_age(start)
        if age < start:
            raise BadAge(age)
        index, first = [arrival for arrival in arrivals(self, start) if arrival[1] <= age][-1]
        wait = self.waits[index]
        return first + (self.wording.spans[index].limited(age) - first) // wait * wait

    def shows(self, start, age):
        """The label that the screen shows at the age."""
        return self.wording.label(self.worded(start, age))


def latest(screen, start, until):
    """The greatest number of ages by which a wording from start on and ahead of until is late, and where it is."""
    demand_steady(screen.wording)
    demand_age(start)
    most, place = 0, start
    for first, wait, _, run in wording_runs(screen, start, until):
        late = wait - run.least_distance()
        if late > most:
            most, place = late, first + run.last_look() * wait
    return (most, place)


def skipped(screen, start, until):
    """The least edge behind start and ahead of until whose label the screen never shows, or None."""
    demand_steady(screen.wording)
    demand_age(start)
    for first, wait, behind, run in wording_runs(screen, start, None):
        # A label is skipped if its edge and the one behind it come up to the next wording.
        look = None if behind is None else run.first_within(wait - behind)
        if look is not None:
            edge = screen.wording.later_edge(first + look * wait)
            return edge if until is None or edge < until else None
    return None


def greatest_waits(wording):
    """For each row the greatest wait with which a screen from the start 0 is never late, None if any wait does."""
    demand_steady(wording)
    for index, span in enumerate(wording.spans[1:]):
        if not span.is_fresh:
            raise BadRow(index)
    return tuple([greatest_wait(span) for span in wording.spans])


def greatest_wait(span):
    """The greatest common divisor of what edges are more than the first age of a row, None if there are no edges.

    An edge is behind the row, if the row has an end.
    """
    wait = 0 if span.high is None else span.high + 1 - span.low
    first = span.edge_after(span.low)
    if first is not None:
        wait = gcd(wait, first - span.low)
        if span.edge_after(first) is not None:
            wait = gcd(wait, span.row.unit)
    return None if wait == 0 else wait


def arrivals(screen, start):
    """The rows in which the screen words, by their indexes, each with the first age at which it does."""
    found = []
    age = start
    for index, span in enumerate(screen.wording.spans):
        if span.high is None:
            found.append((index, age))
        elif age <= span.high:
            found.append((index, age))
            wait = screen.waits[index]
            age += ((span.high - age) // wait + 1) * wait
    return found


def wording_runs(screen, start, until):
    """The runs of wordings from start on and ahead of until that come nearer to the edge ahead of them, ascending.

    Each comes with the first age at which the screen words in the row, the wait there, and how much later than the
    edge ahead the next edge is, or None.
    """
    zones = zones_of(screen.wording)
    found = []
    for index, first in arrivals(screen, start):
        wait = screen.waits[index]
        number = None if until is None else -((first - until) // wait)
        for zone in zones[index]:
            runs = zone.runs(first, wait, number)
            found.extend([(first, wait, zone.behind, run) for run in runs if not run.is_past])
    return found
