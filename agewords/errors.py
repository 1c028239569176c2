"""The errors of the program, with the fields that tell what was wrong."""


class AgeError(ValueError):
    """What all errors of the program are."""


class BadRow(AgeError):
    """The row at an index is wrong."""

    def __init__(self, index):
        self.index = index


class BadText(AgeError):
    """A line of a text, counted from 1, is wrong."""

    def __init__(self, line):
        self.line = line


class BadAge(AgeError):
    """An age is below 0."""

    def __init__(self, age):
        self.age = age


class Unsteady(AgeError):
    """At an age a label comes back, where a steady wording is needed."""

    def __init__(self, age):
        self.age = age


class Clash(AgeError):
    """Two things, told by their indexes, cannot both be so."""

    def __init__(self, first, second):
        self.first = first
        self.second = second


class NotKept(AgeError):
    """A guard does not hold."""

    def __init__(self, guard):
        self.guard = guard


class NothingLeft(AgeError):
    """What is asked for is not there."""


class Busy(AgeError):
    """It cannot be done while something is tried."""
