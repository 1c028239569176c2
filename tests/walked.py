"""Answers found by walking ages one by one, straight from the words of the document.

Nothing here is taken from the package but its classes, so that both can be held against each other.
A wording is a list of tuples (until, unit, way, word) here.
"""

import random

from agewords.wordings import Row, Wording

WAYS = ("down", "up", "near")


def built(rows):
    return Wording([Row(*row) for row in rows])


def rounded(number, unit, way):
    """The number divided by the unit, rounded by the way."""
    whole, rest = divmod(number, unit)
    if way == "down":
        return whole
    if way == "up":
        return whole + (1 if rest > 0 else 0)
    return whole + (1 if 2 * rest >= unit else 0)


def label_of(rows, age):
    for until, unit, way, word in rows:
        if until is None or until > age:
            return (word, None if unit is None else rounded(age, unit, way))
    raise AssertionError("no row for this age")


def far_age(*wordings):
    """An age behind which small wordings show nothing new: all counts of earlier rows have passed, and twice more."""
    untils = [row[0] or 0 for rows in wordings for row in rows]
    units = [row[1] or 0 for rows in wordings for row in rows]
    return (max(untils) + 3) * (max(units) + 1) + 3


class Walked:
    """The labels of all ages from 0 to far, and what they tell."""

    def __init__(self, rows, far):
        self.rows = rows
        self.far = far
        self.labels = [label_of(rows, age) for age in range(far + 1)]
        self.all_edges = [b for b in range(1, far + 1) if self.labels[b] != self.labels[b - 1]]

    def later_edge(self, age):
        return min([b for b in self.all_edges if b > age], default=None)

    def last_edge(self, age):
        return max([b for b in self.all_edges if b <= age], default=0)

    def edges(self, low, high):
        return len([b for b in self.all_edges if low < b <= high])

    def ages(self, label):
        """The stretches with a label; one that reaches far is taken to be without end."""
        stretches = []
        for age in range(self.far + 1):
            if self.labels[age] == label:
                if stretches and stretches[-1][1] == age - 1:
                    stretches[-1] = (stretches[-1][0], age)
                else:
                    stretches.append((age, age))
        if stretches and stretches[-1][1] == self.far:
            stretches[-1] = (stretches[-1][0], None)
        return tuple(stretches)

    def returns(self):
        shown = set()
        for age, label in enumerate(self.labels):
            if label in shown and self.labels[age - 1] != label:
                return age
            shown.add(label)
        return None


def alike(one, other):
    """one and other are Walked to the same age."""
    return min([a for a in range(one.far + 1) if one.labels[a] != other.labels[a]], default=None)


def is_finer(one, other):
    """Whether ages with the same label by one have the same label by other: the document's first sentence of [21]."""
    by_label = {}
    return all(by_label.setdefault(label, other.labels[age]) == other.labels[age]
               for age, label in enumerate(one.labels))


def missed_edge(one, other):
    return min([b for b in other.all_edges if b not in one.all_edges], default=None)


def harmless(rows, step, way, far):
    for age in range(far + 1):
        if label_of(rows, step * rounded(age, step, way)) != label_of(rows, age):
            return age
    return None


def random_rows(chance, most_rows=6, most_gap=9, most_unit=7, words="mmh"):
    """A small wording; few words, so that they stand in several rows."""
    number = chance.randint(1, most_rows)
    rows = []
    until = 0
    for index in range(number):
        until += chance.randint(1, most_gap)
        unit = None if chance.random() < 0.2 else chance.randint(1, most_unit)
        rows.append((None if index == number - 1 else until, unit, chance.choice(WAYS), chance.choice(words)))
    return rows


def going_on(chance, rows):
    """The same wording with some rows cut in two, so that rows go on as the row before."""
    cut = []
    before = 0
    for until, unit, way, word in rows:
        end = until if until is not None else before + 12
        if end - before > 1 and chance.random() < 0.5:
            cut.append((chance.randint(before + 1, end - 1), unit, way, word))
        cut.append((until, unit, way, word))
        before = end
    return cut


def small_wordings(seed, number, **limits):
    chance = random.Random(seed)
    told = []
    for _ in range(number):
        rows = random_rows(chance, **limits)
        told.append(going_on(chance, rows) if chance.random() < 0.3 and len(rows) < 4 else rows)
    return told


def steady_wordings(seed, number):
    """Small wordings that are steady by a walk: mostly with a word of its own for each row."""
    chance = random.Random(seed)
    told = []
    while len(told) < number:
        rows = random_rows(chance, words=chance.choice(("mmh", "mhdwy")))
        if Walked(rows, far_age(rows)).returns() is None:
            told.append(rows)
    return told


def one_row_wordings(most_unit):
    told = [[(None, None, way, "now")] for way in WAYS]
    return told + [[(None, unit, way, "m")] for unit in range(1, most_unit + 1) for way in WAYS]


def two_row_wordings(most_until, most_unit):
    told = []
    for until in range(1, most_until + 1):
        for first in one_row_wordings(most_unit):
            for second in one_row_wordings(most_unit):
                told.append([(until,) + first[0][1:], second[0]])
    return told
