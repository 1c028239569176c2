"""Wordings: rows that word ages, with their labels, edges and texts."""

from agewords.errors import BadAge, BadRow, Unsteady
from agewords.rounding import counted, first_with
from agewords.stretches import joined
from agewords.texts import decimal, read_rows, row_line


class Row:
    """How ages below a limit are worded."""

    def __init__(self, until, unit, way, word):
        self.until = until
        self.unit = unit
        self.way = way
        self.word = word

    def __eq__(self, other):
        return (isinstance(other, Row) and self.until == other.until and self.unit == other.unit
                and self.way == other.way and self.word == other.word)


class Span:
    """The ages of one row of a wording: from low to high, without end if high is None.

    is_fresh tells whether low is an edge.
    """

    def __init__(self, low, high, row, is_fresh):
        self.low = low
        self.high = high
        self.row = row
        self.is_fresh = is_fresh

    def limited(self, age):
        """The age, or the last one of the span if that is less."""
        return age if self.high is None else min(age, self.high)

    def edge_after(self, age):
        """The least edge of the span that is greater than the age, or None."""
        if self.is_fresh and age < self.low:
            return self.low
        if self.row.unit is None:
            return None
        count = count_in(self.row, max(age, self.low))
        edge = first_with(count + 1, self.row.unit, self.row.way)
        return edge if self.high is None or edge <= self.high else None

    def last_edge_until(self, age):
        """The greatest edge of the span that is at most the age, which is at least low, or None."""
        if self.row.unit is not None:
            count = count_in(self.row, self.limited(age))
            edge = first_with(count, self.row.unit, self.row.way)
            if edge > self.low:
                return edge
        return self.low if self.is_fresh else None

    def number_until(self, age):
        """How many edges of the span are at most the age, which is at least low."""
        number = 1 if self.is_fresh else 0
        if self.row.unit is None:
            return number
        return number + count_in(self.row, self.limited(age)) - count_in(self.row, self.low)

    def stretch_with(self, word, count):
        """The stretch of the ages of the span with the label, or None if it has none."""
        if self.row.word != word or (self.row.unit is None) != (count is None):
            return None
        if count is None:
            return (self.low, self.high)
        low = max(self.low, first_with(count, self.row.unit, self.row.way))
        high = self.limited(first_with(count + 1, self.row.unit, self.row.way) - 1)
        return (low, high) if low <= high else None

    def edge_shared(self, earlier):
        """The least edge of the span whose label an earlier span shows, or None."""
        if self.row.word != earlier.row.word or (self.row.unit is None) != (earlier.row.unit is None):
            return None
        if self.row.unit is None:
            return self.low if self.is_fresh else None
        count = count_in(self.row, self.low)
        if not self.is_fresh:
            count += 1
        count = max(count, count_in(earlier.row, earlier.low))
        stretch = self.stretch_with(self.row.word, count)
        if stretch is None or count > count_in(earlier.row, earlier.high):
            return None
        return stretch[0]


class Wording:
    """Rows that word all ages."""

    def __init__(self, rows):
        self.rows = tuple(rows)
        check_untils(self.rows)
        self.spans = spans_of(self.rows)

    def __eq__(self, other):
        return isinstance(other, Wording) and self.rows == other.rows

    def __str__(self):
        return "\n".join([row_line(row) for row in self.rows])

    @classmethod
    def read(cls, text):
        """The wording that a text tells."""
        return cls([Row(until, unit, way, word) for until, unit, way, word in read_rows(text)])

    def label(self, age):
        """The pair (word, count) of an age."""
        demand_age(age)
        row = row_of(self.rows, age)
        return (row.word, count_in(row, age))

    def text(self, age):
        """The label of an age as a screen shows it."""
        word, count = self.label(age)
        return word if count is None else f"{decimal(count)} {word}"

    def later_edge(self, age):
        """The least edge greater than an age, or None."""
        demand_age(age)
        for span in self.spans:
            edge = span.edge_after(age)
            if edge is not None:
                return edge
        return None

    def last_edge(self, age):
        """The greatest edge that is at most the age, 0 if there is none."""
        demand_age(age)
        for span in reversed(self.spans):
            edge = span.last_edge_until(age) if span.low <= age else None
            if edge is not None:
                return edge
        return 0

    def edges(self, low, high):
        """How many edges are greater than low and at most high."""
        demand_age(low)
        demand_age(high)
        return number_of_edges(self.spans, high) - number_of_edges(self.spans, low)

    def ages(self, label):
        """All ages with a label: a tuple of stretches."""
        word, count = label
        stretches = [span.stretch_with(word, count) for span in self.spans]
        return joined([stretch for stretch in stretches if stretch is not None])

    def returns(self):
        """The least edge whose label was shown at an age before it, or None if the wording is steady."""
        for index, span in enumerate(self.spans):
            edges = [span.edge_shared(earlier) for earlier in self.spans[:index]]
            again = [edge for edge in edges if edge is not None]
            if again != []:
                return min(again)
        return None


def demand_steady(wording):
    """Raise Unsteady if a label of the wording comes back."""
    age = wording.returns()
    if age is not None:
        raise Unsteady(age)


def demand_age(age):
    """Raise BadAge for an integer that is no age."""
    if age < 0:
        raise BadAge(age)


def check_untils(rows):
    """Raise BadRow for the first row whose until is wrong."""
    before = 0
    for index, row in enumerate(rows):
        is_last = index == len(rows) - 1
        if (row.until is None) != is_last:
            raise BadRow(index)
        if not is_last and row.until <= before:
            raise BadRow(index)
        before = row.until


def row_of(rows, age):
    """The first row whose until is None or greater than the age."""
    return [row for row in rows if row.until is None or row.until > age][0]


def count_in(row, age):
    """The count that a row gives an age."""
    return None if row.unit is None else counted(age, row.unit, row.way)


def spans_of(rows):
    """The spans of the rows of a wording."""
    spans = []
    low = 0
    shown = None
    for row in rows:
        label = (row.word, count_in(row, low))
        is_fresh = low > 0 and label != shown
        if row.until is None:
            spans.append(Span(low, None, row, is_fresh))
        else:
            spans.append(Span(low, row.until - 1, row, is_fresh))
            shown = (row.word, count_in(row, row.until - 1))
            low = row.until
    return tuple(spans)


def number_of_edges(spans, age):
    """How many edges of a wording are at most the age."""
    return sum([span.number_until(age) for span in spans if span.low <= age])
