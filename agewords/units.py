"""Units that are not told: which ones can have made counts, and where two of them part."""

from agewords.rounding import first_with
from agewords.stretches import common


def units(way, most, examples):
    """The stretch of all units from 1 to most with which a row shows each count at its age."""
    stretches = [units_with(way, most, age, count) for age, count in examples]
    return (1, most) if stretches == [] else common(stretches)


def parting(way, one, other):
    """The least age at which rows with two units show unlike counts, or None."""
    # With the way up both show 1 from the age 1 on, with near units may share their first edge, but never two of them.
    for count in (1, 2):
        edge, another = first_with(count, one, way), first_with(count, other, way)
        if edge != another:
            return min(edge, another)
    return None


def units_with(way, most, age, count):
    """The stretch of the units from 1 to most with which the age has the count, or None."""
    low = first_below(way, age, count + 1)
    end = first_below(way, age, count)
    high = most if end is None else min(most, end - 1)
    return None if low is None or low > high else (low, high)


def first_below(way, age, bound):
    """The least unit with which the age has a count less than the bound, or None; all greater units have, too."""
    divided, divisor = bounding(way, age, bound)
    if divisor > 0:
        return max(1, divided // divisor + 1)
    # No unit does better than 1 here.
    return 1 if divided < divisor else None


def bounding(way, age, bound):
    """Two numbers: the count of the age is less than the bound if the first one is less than a unit times the other."""
    if way == "down":
        return (age, bound)
    if way == "up":
        return (age - 1, bound - 1)
    return (2 * age, 2 * bound - 1)
