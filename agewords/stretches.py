"""Stretches (low, high) of integers, where None stands for no bound: what they share, and all that they hold."""

from agewords.errors import Clash


def is_apart(low, high, distance):
    """Whether high is at least the distance more than low, where None stands for no bound."""
    return low is None or high is None or high - low >= distance


def shared(one, other):
    """The stretch that two stretches share, or None if they share nothing or one of them is None already."""
    if one is None or other is None:
        return None
    low = max([stretch[0] for stretch in (one, other) if stretch[0] is not None], default=None)
    high = min([stretch[1] for stretch in (one, other) if stretch[1] is not None], default=None)
    return (low, high) if is_apart(low, high, 0) else None


def common(stretches):
    """The stretch that all stretches of a list share, of which None holds nothing.

    If there is none, Clash is raised with the indexes of two that share nothing: stretches share something as soon
    as any two of them do.
    """
    for index, stretch in enumerate(stretches):
        if stretch is None:
            raise Clash(index, index)
    lows = [(stretch[0], index) for index, stretch in enumerate(stretches) if stretch[0] is not None]
    highs = [(stretch[1], index) for index, stretch in enumerate(stretches) if stretch[1] is not None]
    low, lowest_by = max(lows, default=(None, None))
    high, highest_by = min(highs, default=(None, None))
    if not is_apart(low, high, 0):
        raise Clash(min(lowest_by, highest_by), max(lowest_by, highest_by))
    return (low, high)


def joined(stretches):
    """What stretches hold together, as a tuple of stretches: ascending, and no two of them touch or overlap."""
    unbounded = [stretch for stretch in stretches if stretch[0] is None]
    bounded = sorted([stretch for stretch in stretches if stretch[0] is not None], key=lambda stretch: stretch[0])
    found = []
    for low, high in unbounded + bounded:
        if found != [] and is_apart(low, found[-1][1], -1):
            low, before = found.pop()
            high = None if before is None or high is None else max(before, high)
        found.append((low, high))
    return tuple(found)
