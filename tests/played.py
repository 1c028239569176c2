"""Answers found by going through events, looks and wordings one by one, straight from the words of the document.

Nothing here is taken from the package. A wording is a list of tuples (until, unit, way, word) here, and a screen
has the list of its waits beside it. What has no end is played up to where nothing new comes any more.
"""

import math
import random

from tests.walked import Walked, far_age, going_on, label_of, random_rows


def look_at(rows, event, moment):
    """What a look at a moment shows of an event."""
    return label_of(rows, moment - event) if event <= moment else None


def stretch_of(found, low, high):
    """The stretch of events found among those from low to high: one that reaches an end is taken to go on there."""
    assert found == list(range(found[0], found[-1] + 1)), found
    return (None if found[0] == low else found[0], None if found[-1] == high else found[-1])


def alike_events(rows, seen, low, high):
    """The events from low to high of which looks show all that was seen."""
    return [event for event in range(low, high + 1)
            if all(look_at(rows, event, moment) == label for moment, label in seen)]


def reach(rows):
    """More than all ages between two edges, or from 0 to the first one."""
    return max([row[0] or 0 for row in rows]) + 2 * max([row[1] or 0 for row in rows]) + 3


def known_by_number(rows, first, step, number, event):
    """What known tells for the first looks of a beat: a list for 0, 1, .. number of them."""
    last = first + step * max(0, number - 1)
    low = min(first, event) - reach(rows) - step
    high = max(last, event) + 2
    found = list(range(low, high + 1))
    told = [stretch_of(found, low, high)]
    for k in range(number):
        moment = first + k * step
        here = look_at(rows, event, moment)
        found = [e for e in found if look_at(rows, e, moment) == here]
        told.append(stretch_of(found, low, high))
    return told


def enough_looks(rows, first, step, event):
    """So many looks of a beat without end that further ones tell nothing new."""
    units = [row[1] or 1 for row in rows]
    return (max(0, event - first) + far_age(rows)) // step + 2 * units[-1] + 3


def width_of(stretch):
    return None if None in stretch else stretch[1] - stretch[0] + 1


def needed(told, width):
    """The least number of looks for which one of the stretches told is narrow enough, or None."""
    for number, stretch in enumerate(told):
        if width_of(stretch) is not None and width_of(stretch) <= width:
            return number
    return None


def row_index(rows, age):
    return min(index for index, row in enumerate(rows) if row[0] is None or row[0] > age)


def wordings_until(rows, waits, start, end):
    """The ages less than the end at which a screen words, with the first one that is not less."""
    ages = [start]
    while ages[-1] < end:
        ages.append(ages[-1] + waits[row_index(rows, ages[-1])])
    return ages


def worded(rows, waits, start, age):
    return wordings_until(rows, waits, start, age + 1)[-2]


def played_age(rows, waits, start):
    """An age behind which a screen does nothing that it has not done before."""
    last = max([start] + [row[0] or 0 for row in rows])
    return last + max(waits) + 2 * math.lcm(rows[-1][1] or 1, waits[-1]) + 2 * (rows[-1][1] or 1) + 3


def lates(rows, waits, start, until):
    """By how much each wording is late, as a dict: wordings from start on and less than until."""
    end = played_age(rows, waits, start) if until is None else until
    ages = wordings_until(rows, waits, start, end)
    return {a: len([x for x in range(a, b) if label_of(rows, x) != label_of(rows, a)]) for a, b in zip(ages, ages[1:])}


def skipped(rows, waits, start, until):
    """The least edge behind start and less than until whose label the screen never shows, or None."""
    end = played_age(rows, waits, start) if until is None else until
    # Labels of edges ahead of the end may come later than the end.
    behind = end + max(waits) + reach(rows)
    shows = {label_of(rows, age) for age in wordings_until(rows, waits, start, behind)}
    edges = [b for b in range(start + 1, end) if label_of(rows, b) != label_of(rows, b - 1)]
    return min([b for b in edges if label_of(rows, b) not in shows], default=None)


def greatest_waits(rows):
    """The common divisors of the edges of each row, or the index of the first row whose until is no edge."""
    walk = Walked(rows, far_age(rows))
    lows = [0] + [row[0] for row in rows[:-1]]
    for index, low in enumerate(lows[1:]):
        if low not in walk.all_edges:
            return index
    told = []
    for low, row in zip(lows, rows):
        high = walk.far if row[0] is None else row[0]
        told.append(math.gcd(*[b - low for b in walk.all_edges if low < b <= high]) or None)
    return tuple(told)


def steady_small(seed, number, most_rows=4):
    """Small steady wordings of one to four rows, some with rows that go on as the one before."""
    chance = random.Random(seed)
    told = []
    while len(told) < number:
        rows = random_rows(chance, most_rows=chance.randint(1, most_rows), words=chance.choice(("mmh", "mhdwy")))
        if len(rows) * 2 <= most_rows and chance.random() < 0.4:
            rows = going_on(chance, rows)
        if Walked(rows, far_age(rows)).returns() is None:
            told.append(rows)
    return told


def multiplied(rows, factor):
    """The wording whose untils and units are all multiplied, if its ways are all down: it shows the same labels."""
    return [(until and until * factor, unit and unit * factor, "down", word) for until, unit, _, word in rows]


def all_down(wordings):
    """Those of the wordings that are steady with the way down in all rows, so changed."""
    told = [[(until, unit, "down", word) for until, unit, _, word in rows] for rows in wordings]
    return [rows for rows in told if Walked(rows, far_age(rows)).returns() is None]


def times_below(first, step, unit, number, bound):
    """How many of the numbers first + k * step, for k less than number, have a remainder by unit less than bound."""
    return (floors(number, unit, step, first) - floors(number, unit, step, first - bound)) if bound > 0 else 0


def floors(number, unit, step, first):
    """The sum of (first + k * step) // unit for k less than number."""
    total = 0
    sign = 1
    while number > 0:
        total += sign * (number * (number - 1) // 2 * (step // unit) + number * (first // unit))
        step, first = step % unit, first % unit
        most = (step * (number - 1) + first) // unit
        if most == 0:
            break
        # The sum over k of the numbers j from 1 to most that are reached, taken the other way round.
        total += sign * most * number
        sign = -sign
        number, first, step, unit = most, unit - first + step - 1, unit, step
    return total
