"""[60] pieces and events_of."""

import random
import unittest

from agewords.errors import AgeError, Unsteady
from agewords.looks import events
from agewords.phases import events_of, pieces
from tests import phased, played
from tests.walked import WAYS, built, label_of

GREAT = 10 ** 30
ONE, OTHER = 10 ** 30 - 1, 10 ** 30 - 11
FACTOR = 10 ** 28 + 7

USUAL = [(60, None, "down", "now"), (3600, 60, "down", "m"), (None, 3600, "near", "h")]
BACK = [(600, 60, "down", "m"), (None, 120, "down", "m")]
NEVER = (("q", None), ("m", None), ("now", 0), ("m", -1), ("h", -7), ("", 5))


def one_row(unit, way="down"):
    return built([(None, unit, way, "m")])


def random_seen(chance, labels, step):
    """Looks in any order: most as one hidden phase and event show them, some of another event, some never shown."""
    phase = chance.randrange(step)
    event = chance.randint(-90, 40)
    seen = []
    for _ in range(chance.randint(0, 5)):
        moment = chance.randint(-phased.MOST_MOMENT, phased.MOST_MOMENT)
        what = chance.random()
        if what < 0.85:
            label = phased.seen_at(labels, step, phase, event, moment)
        elif what < 0.97:
            label = phased.seen_at(labels, step, chance.randrange(step), chance.randint(-90, 40), moment)
        else:
            label = chance.choice(NEVER)
        seen.append((moment, label))
    return seen


def show_alone(wording, step, phase, event, seen):
    """Whether a phase and an event show all that was seen, in numbers of any size."""
    for moment, label in seen:
        wording_at = moment - (moment - phase) % step
        if (None if event > wording_at else wording.label(wording_at - event)) != label:
            return False
    return True


class Pieces(unittest.TestCase):

    def test_ordinary(self):
        self.assertEqual(pieces(one_row(60), 30, [(100, ("m", 1))]), (((0, 10), (-29, 30)), ((11, 29), (-59, 0))))
        # The second look is at a greater age by 60 or, with a phase from 11 to 15, by 30.
        self.assertEqual(pieces(one_row(60), 30, [(100, ("m", 1)), (165, ("m", 2))]),
                         (((0, 10), (-29, 30)), ((11, 15), (-29, 0)), ((16, 29), (-59, 0))))

    def test_cuts_stay_where_the_differences_are_the_same(self):
        self.assertEqual(pieces(one_row(None), 10, [(3, None), (5, None), (5, None), (15, None)]),
                         (((0, 3), (11, None)), ((4, 5), (11, None)), ((6, 9), (1, None))))
        self.assertEqual(pieces(one_row(60), 10, [(3, ("m", 0)), (50, ("m", 0))]),
                         (((0, 0), (-9, 0)), ((1, 3), (-19, 0)), ((4, 9), (-19, -10))))

    def test_no_looks(self):
        for wording in (built(USUAL), one_row(None)):
            for seen in ([], ()):
                self.assertEqual(pieces(wording, 30, seen), (((0, 29), (None, None)),))
                self.assertEqual(pieces(wording, 1, seen), (((0, 0), (None, None)),))
                self.assertEqual(pieces(wording, GREAT, seen), (((0, GREAT - 1), (None, None)),))

    def test_the_last_remainder_may_be_the_last_phase(self):
        self.assertEqual(pieces(one_row(60), 30, [(29, ("m", 0))]), (((0, 29), (-59, 0)),))
        self.assertEqual(pieces(one_row(60), 30, [(-1, ("m", 0))]), (((0, 29), (-89, -30)),))
        self.assertEqual(pieces(one_row(60), 30, [(28, ("m", 0))]), (((0, 28), (-59, 0)), ((29, 29), (-89, -30))))

    def test_the_first_remainder_may_be_0(self):
        self.assertEqual(pieces(one_row(60), 30, [(60, ("m", 0))]), (((0, 0), (1, 60)), ((1, 29), (-29, 30))))

    def test_the_step_1(self):
        seen = [(100, ("m", 1)), (-7, None)]
        self.assertEqual(pieces(one_row(60), 1, seen), (((0, 0), (-6, 40)),))
        self.assertEqual(events(one_row(60), seen), (-6, 40))

    def test_moments_below_0(self):
        self.assertEqual(pieces(one_row(60), 30, [(-100, ("m", 1))]), (((0, 20), (-239, -180)), ((21, 29), (-269, -210))))
        self.assertEqual(pieces(one_row(60), 30, [(-30, None)]), (((0, 0), (-29, None)), ((1, 29), (-59, None))))

    def test_none_is_seen_where_the_event_is_later_than_the_wording(self):
        # The screen has worded 30 later at 40 than at 10, whatever its phase is.
        told = pieces(one_row(60), 30, [(10, None), (40, ("m", 0))])
        self.assertEqual(told, (((0, 10), (1, 30)), ((11, 29), (-29, 0))))
        self.assertEqual(events_of(told), ((-18, 40),))

    def test_no_bound_below(self):
        wording = built([(60, None, "down", "now"), (None, None, "up", "old")])
        self.assertEqual(pieces(wording, 30, [(100, ("old", None))]), (((0, 10), (None, 30)), ((11, 29), (None, 0))))

    def test_pieces_without_differences_are_left_out(self):
        wording = one_row(60)
        # 60 and 89 are two wordings only for phases that are greater than 0.
        self.assertEqual(pieces(wording, 30, [(60, ("m", 0)), (89, ("m", 1))]), (((1, 29), (-29, 0)),))
        # The first look is at a wording after the event, the second one, later, at one ahead of it.
        self.assertEqual(pieces(wording, 30, [(60, ("m", 0)), (89, None)]), ())
        middle = [(10, ("m", 0)), (20, ("m", 1)), (75, ("m", 1))]
        self.assertEqual(pieces(wording, 30, middle), (((16, 20), (-89, -60)),))

    def test_a_label_that_is_never_shown(self):
        for label in (("q", None), ("now", 0), ("m", None), ("m", 0), ("m", 60), ("m", -1), ("h", 0), ("", None)):
            self.assertEqual(pieces(built(USUAL), 30, [(0, label)]), ())
            self.assertEqual(pieces(built(USUAL), 30, [(0, ("now", None)), (7, label), (9, None)]), ())
        self.assertEqual(events_of(pieces(built(USUAL), 30, [(0, ("q", 1))])), ())

    def test_no_clash(self):
        for seen in ([(0, ("m", 1)), (0, ("m", 2))], [(0, None), (-1, ("now", None))], [(5, ("q", 1))]):
            try:
                self.assertEqual(pieces(built(USUAL), 1, seen), ())
            except AgeError as error:
                self.fail(error)

    def test_unsteady_first_of_all(self):
        for seen in ([], [(0, ("q", None))], [(0, ("m", 1)), (500, ("m", 1))]):
            with self.assertRaises(Unsteady) as caught:
                pieces(built(BACK), 30, seen)
            self.assertEqual(caught.exception.age, 600)

    def test_phases_and_events_one_by_one(self):
        chance = random.Random(600)
        lengths = {}
        for rows in played.steady_small(601, 300, most_rows=3):
            labels, wording = phased.labels_of(rows), built(rows)
            for _ in range(3):
                step = chance.choice((1, 2, 3, chance.randint(1, phased.MOST_STEP), chance.randint(1, 24)))
                seen = random_seen(chance, labels, step)
                told = phased.pieces(labels, step, seen)
                self.assertEqual(pieces(wording, step, seen), told, (rows, step, seen))
                self.assertEqual(events_of(told), phased.events_of(labels, [(step, seen)]), (rows, step, seen))
                cuts = len(phased.phase_groups(step, seen))
                what = "none" if not told else "all" if len(told) == cuts else "some"
                lengths[what] = lengths.get(what, 0) + 1
        self.assertGreater(min(lengths[what] for what in ("none", "some", "all")), 100, lengths)

    def test_multiplied(self):
        chance = random.Random(602)
        checked = 0
        for rows in played.all_down(played.steady_small(603, 200, most_rows=3)):
            labels = phased.labels_of(rows)
            step = chance.randint(2, 30)
            seen = random_seen(chance, labels, step)
            if any(moment % step == step - 1 for moment, _ in seen):
                continue
            told = phased.pieces(labels, step, seen)
            great = tuple([(self.phases_times(phases, step), self.differences_times(differences))
                           for phases, differences in told])
            many = [(moment * FACTOR, label) for moment, label in seen]
            self.assertEqual(pieces(built(played.multiplied(rows, FACTOR)), step * FACTOR, many), great)
            checked += len(told) > 1
        self.assertGreater(checked, 40)

    def phases_times(self, phases, step):
        low, high = phases
        return (0 if low == 0 else (low - 1) * FACTOR + 1, step * FACTOR - 1 if high == step - 1 else high * FACTOR)

    def differences_times(self, differences):
        low, high = differences
        return (None if low is None else (low - 1) * FACTOR + 1, None if high is None else high * FACTOR)

    def test_great(self):
        for way, more in (("down", 0), ("up", ONE - 1), ("near", ONE // 2)):
            # The last wording at or before GREAT is at GREAT - 11 + phase or at phase.
            told = pieces(one_row(ONE, way), OTHER, [(GREAT, ("m", 7))])
            low, high = OTHER - 8 * ONE + more + 1, OTHER - 7 * ONE + more
            self.assertEqual(told, (((0, 11), (low, high)), ((12, OTHER - 1), (low - OTHER, high - OTHER))))
            self.assertEqual(events_of(told), ((low - OTHER + 12, high + 11),))

    def hold_great(self, wording, step, seen, phase, event):
        told = pieces(wording, step, seen)
        around = [differences for phases, differences in told if phases[0] <= phase <= phases[1]]
        self.assertEqual(len(around), 1)
        self.assertTrue(self.holds(around[0], event - phase), (step, seen, phase, event))
        for phases, (low, high) in told:
            for at in phases:
                for difference in (low, high):
                    self.assertTrue(difference is None or show_alone(wording, step, at, at + difference, seen))
                self.assertFalse(low is not None and show_alone(wording, step, at, at + low - 1, seen))
                self.assertFalse(high is not None and show_alone(wording, step, at, at + high + 1, seen))
        found = events_of(told)
        self.assertEqual([stretch for stretch in found if self.holds(stretch, event)][1:], [])
        self.assertTrue(any(self.holds(stretch, event) for stretch in found))
        for one, other in zip(found, found[1:]):
            self.assertLess(one[1] + 1, other[0])
        return len(told)

    def holds(self, stretch, number):
        return (stretch[0] is None or stretch[0] <= number) and (stretch[1] is None or number <= stretch[1])

    def test_great_numbers_at_their_ends(self):
        chance = random.Random(604)
        most = 10 ** 31 - 1
        numbers = 0
        for _ in range(300):
            way, digits = chance.choice(WAYS), chance.choice((3, 16, 31))
            unit = chance.choice((None, chance.randint(1, 10 ** digits - 1), chance.randint(1, most)))
            rows = [(chance.randint(1, most), chance.randint(1, 10 ** digits - 1), chance.choice(WAYS), "m"),
                    (None, unit, way, "h")][chance.randint(0, 1):]
            step = chance.choice((chance.randint(1, 10 ** digits - 1), chance.randint(1, most)))
            phase, event = chance.randrange(step), chance.randint(-most, most)
            seen = []
            for _ in range(chance.randint(1, 6)):
                moment = chance.choice((chance.randint(-most, most), event + chance.randint(-10 ** digits, 10 ** digits)))
                wording_at = moment - (moment - phase) % step
                seen.append((moment, None if event > wording_at else label_of(rows, wording_at - event)))
            numbers += self.hold_great(built(rows), step, seen, phase, event)
        self.assertGreater(numbers, 600)

    def test_many_looks(self):
        wording, step = one_row(60), 10 ** 6
        # With the phase 7 this screen words at 7 and 1000007 alone, here for an event at -53.
        seen = [(moment, ("m", 16667 if moment >= 1000007 else 1)) for moment in range(7, 2 * step, 211)]
        told = pieces(wording, step, seen)
        self.assertEqual(told[0], ((0, 7), (-79, -60)))
        self.assertEqual(events_of(told[:1]), ((-79, -53),))


class EventsOf(unittest.TestCase):

    def test_no_pieces(self):
        self.assertEqual((events_of([]), events_of(())), ((), ()))

    def test_one_piece(self):
        self.assertEqual(events_of([((0, 0), (5, 5))]), ((5, 5),))
        self.assertEqual(events_of([((3, 7), (-10, 10))]), ((-7, 17),))
        self.assertEqual(events_of([((3, 7), (None, 10))]), ((None, 17),))
        self.assertEqual(events_of([((3, 7), (-10, None))]), ((-7, None),))
        self.assertEqual(events_of([((3, 7), (None, None))]), ((None, None),))

    def test_what_touches_or_overlaps_is_one_stretch(self):
        self.assertEqual(events_of([((0, 0), (1, 2)), ((0, 0), (3, 4))]), ((1, 4),))
        self.assertEqual(events_of([((0, 0), (1, 2)), ((0, 0), (4, 5))]), ((1, 2), (4, 5)))
        self.assertEqual(events_of([((0, 0), (1, 9)), ((0, 0), (3, 4)), ((0, 0), (8, 12))]), ((1, 12),))
        self.assertEqual(events_of([((0, 0), (1, 9)), ((0, 0), (1, 9))]), ((1, 9),))
        self.assertEqual(events_of([((0, 1), (1, 2)), ((2, 3), (2, 4))]), ((1, 7),))

    def test_any_order(self):
        told = [((0, 0), (20, 25)), ((0, 0), (1, 2)), ((0, 0), (10, 12)), ((0, 0), (3, 3))]
        chance = random.Random(605)
        for _ in range(20):
            chance.shuffle(told)
            self.assertEqual(events_of(told), ((1, 3), (10, 12), (20, 25)))

    def test_no_bounds(self):
        below, above = ((0, 1), (None, 5)), ((0, 1), (10, None))
        self.assertEqual(events_of([above, below]), ((None, 6), (10, None)))
        self.assertEqual(events_of([above, ((0, 0), (7, 9)), below]), ((None, None),))
        self.assertEqual(events_of([above, ((0, 0), (8, 8)), below]), ((None, 6), (8, 8), (10, None)))
        self.assertEqual(events_of([below, ((0, 0), (None, 9)), ((0, 0), (None, 2))]), ((None, 9),))
        self.assertEqual(events_of([above, ((0, 0), (20, 30)), ((0, 0), (12, None))]), ((10, None),))
        self.assertEqual(events_of([above, ((0, 0), (None, None)), below, ((0, 0), (7, 7))]), ((None, None),))

    def test_pieces_of_several_calls(self):
        chance = random.Random(606)
        lengths = {}
        for rows in played.steady_small(607, 150, most_rows=3):
            labels = phased.labels_of(rows)
            calls = []
            for _ in range(chance.randint(2, 4)):
                step = chance.randint(1, 16)
                calls.append((step, random_seen(chance, labels, step)))
            told = [piece for step, seen in calls for piece in pieces(built(rows), step, seen)]
            chance.shuffle(told)
            found = phased.events_of(labels, calls)
            self.assertEqual(events_of(told), found, (rows, calls))
            self.assertEqual(events_of(tuple(told)), found)
            lengths[len(found)] = lengths.get(len(found), 0) + 1
        self.assertGreater(lengths[1], 20, lengths)
        self.assertGreater(lengths[2], 10, lengths)

    def test_great(self):
        low, high = -10 ** 31 + 1, 10 ** 31 - 1
        self.assertEqual(events_of([((GREAT, GREAT + 5), (low, low + 1)), ((0, high), (0, high))]),
                         ((low + GREAT, low + GREAT + 6), (0, 2 * high)))


class Arguments(unittest.TestCase):

    def test_by_name(self):
        told = pieces(seen=[(100, ("m", 1))], step=30, wording=one_row(60))
        self.assertEqual(told, (((0, 10), (-29, 30)), ((11, 29), (-59, 0))))
        self.assertEqual(events_of(told=told), ((-48, 40),))

    def test_kinds_of_what_is_told(self):
        told = pieces(one_row(60), 30, [(100, ("m", 1))])
        for value in (told, told[0], told[0][0], told[0][1], events_of(told), events_of(told)[0]):
            self.assertIs(type(value), tuple)

    def test_lists_or_tuples_and_nothing_changes(self):
        wording, seen = one_row(60), [(165, ("m", 2)), (100, ("m", 1)), (-5, None)]
        told = pieces(wording, 30, seen)
        listed = list(told)
        for _ in range(2):
            self.assertEqual(pieces(wording, 30, tuple(seen)), told)
            self.assertEqual(pieces(one_row(60), 30, list(seen)), told)
            self.assertEqual(events_of(listed), events_of(told))
        self.assertEqual(seen, [(165, ("m", 2)), (100, ("m", 1)), (-5, None)])
        self.assertEqual((listed, wording), (list(told), one_row(60)))

    def test_what_is_told_may_be_passed_on_however_great(self):
        wording, step, event = one_row(ONE, "near"), OTHER, -GREAT
        for _ in range(60):
            phase = event % step
            told = pieces(wording, step, [(0, wording.label(-(0 - phase) % step - event + phase - step))])
            step, event = step * ONE + 5, event * GREAT - 3
            self.assertIs(type(events_of(told)), tuple)
        self.assertLess(event, -10 ** 1500)


if __name__ == "__main__":
    unittest.main()
