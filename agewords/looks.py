"""Looks at told moments: what they show, and what they tell of when something happened."""

from agewords.stretches import common, is_apart
from agewords.wordings import demand_steady


def shown(wording, event, moments):
    """What looks at the moments show of the event."""
    return [shown_at(wording, event, moment) for moment in moments]


def events(wording, seen):
    """The stretch of all events of which looks show what was seen."""
    demand_steady(wording)
    return common([explained(wording, moment, label) for moment, label in seen])


def order(wording, seen, other):
    """Those of "before", "same" and "after" that the first of two events can be to the second one."""
    one_low, one_high = events(wording, seen)
    other_low, other_high = events(wording, other)
    told = []
    if is_apart(one_low, other_high, 1):
        told.append("before")
    if is_apart(one_low, other_high, 0) and is_apart(other_low, one_high, 0):
        told.append("same")
    if is_apart(other_low, one_high, 1):
        told.append("after")
    return tuple(told)


def same_events(wording, moments, event):
    """The stretch of all events of which looks at the moments show the same as of this one."""
    return events(wording, list(zip(moments, shown(wording, event, moments))))


def shown_at(wording, event, moment):
    """What a look at the moment shows of the event."""
    return None if event > moment else wording.label(moment - event)


def explained(wording, moment, label):
    """The stretch of the events of which a look at the moment shows the label, or None if it never does."""
    if label is None:
        return (moment + 1, None)
    ages = wording.ages(label)
    if ages == ():
        return None
    # A steady wording has a label at one stretch of ages.
    low, high = ages[0]
    return (None if high is None else moment - high, moment - low)
