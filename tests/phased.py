"""Answers about unknown moments of wording and about hidden units, found by going through them one by one.

Nothing here is taken from the package. A wording is a list of tuples (until, unit, way, word) here. Differences and
events are looked for from LOW to HIGH; what reaches an end is taken to go on there.
"""

from tests.walked import label_of, rounded

LOW, HIGH = -620, 200
# Moments that are looked at, and steps, stay within these, so that ages do not leave the table of labels.
MOST_MOMENT, MOST_STEP = 60, 40


def labels_of(rows):
    """The labels of all ages that can be met."""
    return [label_of(rows, age) for age in range(MOST_MOMENT - LOW + 1)]


def last_wording(phase, step, moment):
    """The last moment at or before this one at which the screen words."""
    while (moment - phase) % step != 0:
        moment -= 1
    return moment


def seen_at(labels, step, phase, event, moment):
    """What a person who looks at a moment sees."""
    age = last_wording(phase, step, moment) - event
    return None if age < 0 else labels[age]


def differences(labels, step, phase, seen):
    """All differences from LOW to HIGH between the event and the phase that show all that was seen."""
    found = range(LOW, HIGH + 1)
    for moment, label in seen:
        age = last_wording(phase, step, moment) - phase
        found = [d for d in found if (labels[age - d] if d <= age else None) == label]
    return list(found)


def stretch_of(found):
    assert found == list(range(found[0], found[-1] + 1)), found
    return (None if found[0] == LOW else found[0], None if found[-1] == HIGH else found[-1])


def phase_groups(step, seen):
    """The phases, a list for each of the stretches into which they are cut."""
    rests = {moment % step for moment, _ in seen}
    groups = [[]]
    for phase in range(step):
        groups[-1].append(phase)
        if phase in rests:
            groups.append([])
    return [group for group in groups if group]


def pieces(labels, step, seen):
    told = []
    for group in phase_groups(step, seen):
        found = [differences(labels, step, phase, seen) for phase in group]
        # This holds the document's cuts: behind no other phase the differences change.
        assert all(one == found[0] for one in found), (step, seen)
        if found[0]:
            told.append(((group[0], group[-1]), stretch_of(found[0])))
    return tuple(told)


def events_of(labels, calls):
    """All events that one of the calls, pairs of a step and of what was seen, can have: a tuple of stretches."""
    found = set()
    for step, seen in calls:
        for phase in range(step):
            found |= {phase + d for d in differences(labels, step, phase, seen)}
    # Each phase has its own end of the differences, so events are known between these ends alone.
    low, high = LOW + MOST_STEP, HIGH
    told = []
    for event in range(low, high + 1):
        if event in found:
            if event - 1 in found and told:
                told[-1] = (told[-1][0], event)
            else:
                told.append((event, event))
    if told and told[0][0] == low:
        told[0] = (None, told[0][1])
    if told and told[-1][1] == high:
        told[-1] = (told[-1][0], None)
    return tuple(told)


def units_showing(way, most, examples):
    """All units from 1 to most with which each count is shown at its age."""
    return [unit for unit in range(1, most + 1)
            if all(rounded(age, unit, way) == count for age, count in examples)]


def parting(way, one, other, far):
    """The least age up to far at which two units show unlike counts, or None."""
    for age in range(far + 1):
        if rounded(age, one, way) != rounded(age, other, way):
            return age
    return None
