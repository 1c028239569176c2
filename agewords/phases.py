"""Looks at a screen that words anew at a steady step, but at unknown moments."""

from agewords.looks import explained
from agewords.stretches import joined, shared
from agewords.wordings import demand_steady


def pieces(wording, step, seen):
    """All pairs (phase, event) that show what was seen, as pairs (phases, differences) of stretches."""
    demand_steady(wording)
    by_rest = differences_by_rest(wording, step, seen)
    rests = sorted(by_rest)
    # A look sees the last wording. If the phase is greater than the rest of its moment, this is one step earlier.
    earlier = running([moved(by_rest[rest], -step) for rest in rests])
    later = running([by_rest[rest] for rest in rests[::-1]])[::-1]
    told = []
    for phases, one, other in zip(phases_between(rests, step), earlier, later):
        differences = shared(one, other)
        if differences is not None:
            told.append((phases, differences))
    return tuple(told)


def events_of(told):
    """All events of a list of pieces, as a tuple of stretches."""
    return joined([added(phases, differences) for phases, differences in told])


def differences_by_rest(wording, step, seen):
    """By the remainder of moments by the step: the differences that show what the looks at such moments saw.

    They are those for phases that are at most the remainder; None if there are none.
    """
    found = {}
    for moment, label in seen:
        rest = moment % step
        differences = explained(wording, moment - rest, label)
        found[rest] = shared(found.get(rest, (None, None)), differences)
    return found


def running(stretches):
    """What the first stretches of a list share, for 0, 1, .. of them."""
    found = [(None, None)]
    for stretch in stretches:
        found.append(shared(found[-1], stretch))
    return found


def phases_between(rests, step):
    """The stretches of phases that are cut behind each remainder."""
    found = []
    low = 0
    for rest in rests:
        found.append((low, rest))
        low = rest + 1
    return found + [(low, step - 1)] if low < step else found


def moved(stretch, distance):
    """The stretch with all its integers more by a distance; None stays None."""
    return None if stretch is None else added(stretch, (distance, distance))


def added(one, other):
    """The stretch of all sums of an integer of one stretch and one of another."""
    low = None if one[0] is None or other[0] is None else one[0] + other[0]
    high = None if one[1] is None or other[1] is None else one[1] + other[1]
    return (low, high)
