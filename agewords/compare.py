"""Two wordings beside each other, and ages that are rounded before they are worded."""

from agewords.rounding import counted
from agewords.wordings import Row, Wording, demand_steady


def alike(one, other):
    """The least age at which two wordings have not the same label, or None."""
    for start in starts(one, other):
        for age in ages_to_try(one, other, start):
            if one.label(age) != other.label(age):
                return age
    return None


def finer(one, other):
    """The least edge of other that is no edge of one, or None: other tells nothing that one does not tell."""
    demand_steady(one)
    return missed_edge(one, other)


def harmless(wording, step, way):
    """The least age whose label is another one if it is first brought to a multiple of the step, or None."""
    demand_steady(wording)
    # Ages that are brought to the same multiple are those with the same label here.
    brought = Wording([Row(None, step, way, "step")])
    edge = missed_edge(brought, wording)
    if edge is None:
        return None
    if edge > counted(edge, step, way) * step:
        return edge
    return brought.last_edge(edge)


def starts(one, other):
    """The first ages of the rows of two wordings, ascending."""
    return sorted(set([span.low for span in one.spans + other.spans]))


def ages_to_try(one, other, start):
    """The start and the next two ages at which one of two wordings has an edge.

    Two wordings that are alike at these have the same unit, so they are alike up to the next start.
    """
    ages = [start]
    while ages[-1] is not None and len(ages) < 3:
        ages.append(next_edge(one, other, ages[-1]))
    return [age for age in ages if age is not None]


def next_edge(one, other, age):
    """The least age greater than this one that is an edge of any of two wordings, or None."""
    edges = [one.later_edge(age), other.later_edge(age)]
    return min([edge for edge in edges if edge is not None], default=None)


def missed_edge(one, other):
    """The least edge of other that is no edge of one, or None."""
    for start in starts(one, other):
        edge = other.later_edge(max(start - 1, 0))
        # If the two edges behind the start are edges of one, other's unit is a multiple of one's unit,
        # and no edge up to the next start is missed.
        for _ in range(3):
            if edge is None:
                return None
            if one.last_edge(edge) != edge:
                return edge
            edge = other.later_edge(edge)
    return None
