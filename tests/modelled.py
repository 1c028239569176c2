"""A plain model of a board, straight from the words of the document, to be played beside one.

Nothing here is taken from the package. Things are lists of looks, events are all those from LOW to HIGH that explain
them, one by one, and each change keeps a copy of all things as they were.
"""

from tests.walked import label_of

# Events of small wordings stay far within; what reaches an end is taken to go on there.
LOW, HIGH = -400, 160


class Refused(Exception):
    """A call that a board has to refuse, with the name of the error and all fields that may stand."""

    def __init__(self, name, fields):
        super().__init__(name)
        self.name = name
        self.fields = fields


class Model:

    def __init__(self, rows):
        self.labels = [label_of(rows, age) for age in range(100 - LOW + 1)]
        self.things = {}
        self.guards = []
        self.past = []
        self.future = []
        self.trials = 0
        self.known_lists = {}

    def explaining(self, looks):
        """All events that explain the looks."""
        key = tuple(looks)
        if key not in self.known_lists:
            found = range(LOW, HIGH + 1)
            for moment, label in looks:
                found = [e for e in found if (self.labels[moment - e] if e <= moment else None) == label]
            self.known_lists[key] = list(found)
        return self.known_lists[key]

    def clashes(self, looks):
        """All pairs of indexes, first at most second, of looks that no event explains."""
        return [(i, j) for j in range(len(looks)) for i in range(j + 1)
                if not self.explaining([looks[i], looks[j]])]

    def holds(self, guard, things):
        kind, *told = guard
        names = told[:2] if kind == "before" else told[:1]
        if not all(name in things for name in names):
            return False
        lists = [self.explaining(things[name]) for name in names]
        if kind == "before":
            return all(e < lists[1][0] for e in lists[0]) and all(lists[0][-1] < f for f in lists[1])
        if kind == "within":
            low, high = told[1:]
            return all((low is None or low <= e) and (high is None or e <= high) for e in lists[0])
        return len(lists[0]) <= told[1]

    def demand(self, things):
        for guard in self.guards:
            if not self.holds(guard, things):
                raise Refused("NotKept", [guard])

    def copied(self):
        return {name: list(looks) for name, looks in self.things.items()}

    def change(self, name, looks):
        things = self.copied()
        things[name] = looks
        if not looks:
            del things[name]
        elif not self.explaining(looks):
            raise Refused("Clash", self.clashes(looks))
        self.demand(things)
        self.past.append(self.things)
        self.future = []
        self.things = things

    def put(self, name, moment, label):
        self.change(name, self.things.get(name, []) + [(moment, label)])

    def drop(self, name, index):
        looks = self.things.get(name, [])
        if index not in range(len(looks)):
            raise Refused("NothingLeft", [()])
        self.change(name, [look for k, look in enumerate(looks) if k != index])

    def keep(self, guard):
        if not self.holds(guard, self.things):
            raise Refused("NotKept", [guard])
        self.guards = self.guards + [guard]

    def free(self, guard):
        for k, other in enumerate(self.guards):
            if other == guard:
                self.guards = self.guards[:k] + self.guards[k + 1:]
                return
        raise Refused("NothingLeft", [()])

    def go(self, here, there):
        if self.trials:
            raise Refused("Busy", [()])
        if not here:
            raise Refused("NothingLeft", [()])
        self.demand(here[-1])
        there.append(self.things)
        self.things = here.pop()

    def undo(self):
        self.go(self.past, self.future)

    def redo(self):
        self.go(self.future, self.past)

    def looks(self, name):
        if name not in self.things:
            raise Refused("NothingLeft", [()])
        return tuple(self.things[name])

    def events(self, name):
        found = self.explaining(self.looks(name))
        assert found == list(range(found[0], found[-1] + 1))
        return (None if found[0] == LOW else found[0], None if found[-1] == HIGH else found[-1])

    def saved(self):
        return (self.copied(), list(self.guards), list(self.past), list(self.future), self.trials)

    def restored(self, saved):
        self.things, self.guards, self.past, self.future, self.trials = saved
