"""Numbers that are divided by a unit and rounded by a way.

Each way is rounding down behind a shift, so all of them share their arithmetic.
"""


def shift_of(unit, way):
    """What is added to a number, so that to round it down is to round it by the way."""
    if way == "down":
        return 0
    if way == "up":
        return unit - 1
    return unit // 2


def counted(number, unit, way):
    """The number divided by the unit and rounded by the way."""
    return (number + shift_of(unit, way)) // unit


def first_with(count, unit, way):
    """The least number that has the count."""
    return count * unit - shift_of(unit, way)
