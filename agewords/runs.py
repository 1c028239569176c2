"""Runs of looks that come nearer and nearer to an edge.

An age is past the edge at or before it by a number from 0 on, and the edge behind it is ahead by a number from 1 on.
"""


class Run:
    """Looks of which each is nearer to an edge than all looks before it.

    is_past tells which edges are meant: those that the ages are past, or those that are ahead. The run has as many
    looks as times: the first one has the number look and a distance from its edge, and each further one comes gap
    looks later and is nearer by drop.
    """

    def __init__(self, is_past, look, gap, times, distance, drop):
        self.is_past = is_past
        self.look = look
        self.gap = gap
        self.times = times
        self.distance = distance
        self.drop = drop

    def last_look(self):
        """The number of the last look."""
        return self.look + (self.times - 1) * self.gap

    def least_distance(self):
        """The distance of the last look, which is nearest."""
        return self.distance - (self.times - 1) * self.drop

    def first_within(self, distance):
        """The number of the first look with at most this distance, or None."""
        if self.distance <= distance:
            return self.look
        if self.least_distance() > distance:
            return None
        return self.look + (self.distance - distance + self.drop - 1) // self.drop * self.gap

    def placed(self, before, number):
        """The run behind other looks, without its looks from a number on (None: with all of them)."""
        times = self.times
        if number is not None:
            times = min(times, (number - 1 - self.look) // self.gap + 1)
        return Run(self.is_past, before + self.look, self.gap, times, self.distance, self.drop)


class Side:
    """What looks do with the edges of one side: those that are past, or those that are ahead.

    A look that comes gap looks after another one is nearer to the edge of that one by move, if it has not passed it.
    room is how much nearer than the nearest look so far a look can be.
    """

    def __init__(self, room, move, gap):
        self.room = room
        self.move = move
        self.gap = gap


def even_runs(first, step, unit):
    """All runs of the looks at first, first + step, .. without end, where edges are the multiples of the unit."""
    past = first % unit
    runs = [Run(True, 0, 1, 1, past, 0), Run(False, 0, 1, 1, unit - past, 0)]
    rising = Side(unit - past - 1, step % unit, 1)
    falling = Side(past, unit - step % unit, 1)
    look = 1
    # Both moves together are always one more than both rooms together, so exactly one side has room for its move:
    # the next look that is nearer than all before it is nearer there. A move of 0 means that looks have come back
    # to where they were, so none comes nearer any more.
    while rising.move > 0 and falling.move > 0:
        is_past = falling.room >= falling.move
        side, other = (falling, rising) if is_past else (rising, falling)
        run = next_run(is_past, look, side, other)
        runs.append(run)
        shorten(side, other, run.times)
        look = run.last_look() + side.gap
    return runs


def next_run(is_past, look, side, other):
    """The run on a side that has room for its move, beginning with the look of this number."""
    # It ends where there is no more room for the move, or where the other move has become at most as great.
    times = min(side.room, other.move + side.move - 1) // side.move
    distance = side.room - side.move
    return Run(is_past, look, side.gap, times, distance if is_past else distance + 1, side.move)


def shorten(side, other, times):
    """Make the moves of both sides those that follow a run on the one side, as Euclid does with two numbers."""
    side.room -= times * side.move
    other.move -= (times - 1) * side.move
    other.gap += (times - 1) * side.gap
    side.gap += side.move // other.move * other.gap
    side.move = side.move % other.move
    other.move -= side.move
    other.gap += side.gap
