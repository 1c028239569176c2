"""Boards: looks at many things, with guards over what they tell, and with changes that can be undone."""

from agewords.errors import Busy, NothingLeft, NotKept
from agewords.looks import explained
from agewords.stretches import common
from agewords.wordings import demand_steady


class Thing:
    """The looks at a thing, and the stretch of its events.

    Its entries are pairs of a look and of the stretch of the events that explain this look alone. It does not change.
    """

    def __init__(self, entries):
        self.entries = entries
        self.stretch = common([stretch for _, stretch in entries])


class Change:
    """An entry that is put into a thing at an index, or that is taken away from there."""

    def __init__(self, is_put, name, index, entry):
        self.is_put = is_put
        self.name = name
        self.index = index
        self.entry = entry

    def back(self):
        """The change that takes this one back."""
        return Change(not self.is_put, self.name, self.index, self.entry)

    def made(self, entries):
        """The entries of the thing behind the change."""
        if self.is_put:
            return entries[:self.index] + (self.entry,) + entries[self.index:]
        return entries[:self.index] + entries[self.index + 1:]


class Board:
    """Things with their looks, guards, and the changes that can be undone and redone."""

    def __init__(self, wording):
        demand_steady(wording)
        self.wording = wording
        self.guards = ()
        # Each change puts a new dict in place of this one, so a trial can go back to the one that was there before.
        self.things = {}
        self.done = []
        self.undone = []
        self.trials = 0

    @property
    def names(self):
        """The names of all things, ascending."""
        return tuple(sorted(self.things))

    @property
    def undoable(self):
        """How many changes can be undone."""
        return len(self.done)

    @property
    def redoable(self):
        """How many changes can be redone."""
        return len(self.undone)

    def looks(self, name):
        """The looks at a thing."""
        return tuple([look for look, _ in self.thing(name).entries])

    def events(self, name):
        """The stretch of all events of which looks show what the looks at a thing show."""
        return self.thing(name).stretch

    def put(self, name, moment, label):
        """Put a look behind those at a thing."""
        entry = ((moment, label), explained(self.wording, moment, label))
        self.change(Change(True, name, len(self.entries_of(name)), entry))

    def drop(self, name, index):
        """Take a look at a thing away."""
        entries = self.entries_of(name)
        if index < 0 or index >= len(entries):
            raise NothingLeft()
        self.change(Change(False, name, index, entries[index]))

    def keep(self, guard):
        """Put a guard behind the others."""
        demand_kept((guard,), self.things)
        self.guards = self.guards + (guard,)

    def free(self, guard):
        """Take the first guard away that is equal to this one."""
        if guard not in self.guards:
            raise NothingLeft()
        guards = list(self.guards)
        guards.remove(guard)
        self.guards = tuple(guards)

    def undo(self):
        """Take the last change back."""
        self.demand_change(self.done)
        self.take(self.done[-1].back())
        self.undone.append(self.done.pop())

    def redo(self):
        """Make the change again that was taken back last."""
        self.demand_change(self.undone)
        self.take(self.undone[-1])
        self.done.append(self.undone.pop())

    def tried(self, action):
        """What an action tells of the board, which is behind it as it was before."""
        things, guards, trials = self.things, self.guards, self.trials
        done, undone = list(self.done), list(self.undone)
        self.trials = trials + 1
        try:
            return action(self)
        finally:
            self.things, self.guards, self.trials = things, guards, trials
            self.done, self.undone = done, undone

    def thing(self, name):
        """The thing with a name."""
        if name not in self.things:
            raise NothingLeft()
        return self.things[name]

    def entries_of(self, name):
        """The entries of a thing, none if there is no thing with this name."""
        return self.things[name].entries if name in self.things else ()

    def change(self, change):
        """Make a new change, behind which nothing can be redone."""
        self.take(change)
        self.done.append(change)
        self.undone = []

    def take(self, change):
        """Bring the things to what they are behind a change, if their looks and the guards allow it."""
        things = dict(self.things)
        entries = change.made(self.entries_of(change.name))
        if entries == ():
            del things[change.name]
        else:
            things[change.name] = Thing(entries)
        demand_kept(self.guards, things)
        self.things = things

    def demand_change(self, changes):
        """Raise what keeps the last one of these changes from being undone or redone, but for guards."""
        if self.trials > 0:
            raise Busy()
        if changes == []:
            raise NothingLeft()


def demand_kept(guards, things):
    """Raise NotKept for the first guard that does not hold."""
    for guard in guards:
        if not holds(guard, things):
            raise NotKept(guard)


def holds(guard, things):
    """Whether a guard holds for things, told as a dict by their names."""
    if guard[0] == "before":
        _, one, other = guard
        return one in things and other in things and is_before(things[one].stretch, things[other].stretch)
    if guard[1] not in things:
        return False
    stretch = things[guard[1]].stretch
    if guard[0] == "within":
        return is_within(stretch, guard[2], guard[3])
    return is_known(stretch, guard[2])


def is_before(one, other):
    """Whether all integers of a stretch are less than all of another one."""
    return one[1] is not None and other[0] is not None and one[1] < other[0]


def is_within(stretch, low, high):
    """Whether all integers of a stretch are from low to high, where None stands for no bound."""
    is_from = low is None or (stretch[0] is not None and stretch[0] >= low)
    return is_from and (high is None or (stretch[1] is not None and stretch[1] <= high))


def is_known(stretch, width):
    """Whether a stretch has at most width integers."""
    return None not in stretch and stretch[1] - stretch[0] < width
