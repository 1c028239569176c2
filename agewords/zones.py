"""Zones: ages of a row of a wording of which one rule tells how far the edges around them are."""

from agewords.runs import Run, even_runs


class Zone:
    """The ages from low to high, where None stands for no bound.

    Without a unit all of them have the same last edge and the same later edge; None stands for no edge. With a unit
    the edges around them are low and what is more than low by multiples of the unit.
    behind is how much later than the later edge the next one is, or None.
    """

    def __init__(self, low, high, unit, last, later, behind):
        self.low = low
        self.high = high
        self.unit = unit
        self.last = last
        self.later = later
        self.behind = behind

    def runs(self, first, step, number):
        """The runs of those looks at the ages first, first + step, .. that are in the zone.

        There are number looks, or looks without end if it is None. The look at first has the number 0.
        """
        before = 0 if self.low is None else max(0, -((first - self.low) // step))
        end = number if self.high is None else lesser(number, (self.high - first) // step + 1)
        if end is not None and end <= before:
            return []
        inside = None if end is None else end - before
        runs = self.runs_from(first + before * step, step, inside)
        return [run.placed(before, inside) for run in runs if inside is None or run.look < inside]

    def runs_from(self, age, step, number):
        """The runs of looks from an age of the zone on; with a unit also those behind the zone."""
        if self.unit is not None:
            return even_runs(age - self.low, step, self.unit)
        runs = []
        if self.last is not None:
            runs.append(Run(True, 0, 1, 1, age - self.last, 0))
        if self.later is not None:
            runs.append(Run(False, 0, 1, number, self.later - age, step))
        return runs


def lesser(one, other):
    """The lesser of two numbers, of which None is greater than all."""
    if one is None or other is None:
        return other if one is None else one
    return min(one, other)


def zones_of(wording):
    """For each row of a wording the list of its zones, ascending; some may be without ages."""
    return [span_zones(wording, span) for span in wording.spans]


def span_zones(wording, span):
    """The zones of the ages of one row."""
    first = span.edge_after(span.low)
    if first is None:
        return [plain_zone(wording, span.low, span.high)]
    unit = span.row.unit
    zones = [plain_zone(wording, span.low, first - 1)]
    if span.high is None:
        return zones + [even_zone(first, None, unit)]
    last = span.last_edge_until(span.high)
    # Ahead of the last edge of the row the later edge is that one, but the edge behind it is not of the row.
    cut = max(first, last - unit)
    zones.append(even_zone(first, cut - 1, unit))
    return zones + [plain_zone(wording, cut, last - 1), plain_zone(wording, last, span.high)]


def even_zone(low, high, unit):
    """The zone from an edge on in which the edges follow one another by the unit."""
    return Zone(low, high, unit, None, None, unit)


def plain_zone(wording, low, high):
    """The zone of ages that have no edge between them."""
    later = wording.later_edge(low)
    following = None if later is None else wording.later_edge(later)
    behind = None if following is None else following - later
    return Zone(low, high, None, wording.last_edge(low), later, behind)
