"""[40] Beat and known, [41] needed."""

import math
import random
import time
import unittest

from agewords.beats import Beat, known, needed
from agewords.errors import Unsteady
from agewords.looks import same_events
from agewords.runs import even_runs
from tests import played
from tests.walked import WAYS, built, going_on, one_row_wordings, two_row_wordings

GREAT = 10 ** 30
ONE, OTHER = 10 ** 30 - 1, 10 ** 30 - 11
FACTOR = 10 ** 28 + 7

USUAL = [(60, None, "down", "now"), (3600, 60, "down", "m"), (None, 3600, "near", "h")]
BACK = [(600, 60, "down", "m"), (None, 120, "down", "m")]
FINE = [(1, None, "down", "now"), (GREAT, 1, "down", "s"), (None, ONE, "down", "m")]


def one_row(unit, way="down"):
    return built([(None, unit, way, "m")])


class BeatItself(unittest.TestCase):

    def test_attributes(self):
        beat = Beat(-3, 42, 7)
        self.assertEqual((beat.first, beat.step, beat.number), (-3, 42, 7))
        beat = Beat(number=None, step=1, first=5)
        self.assertEqual((beat.first, beat.step, beat.number), (5, 1, None))


class KnownAndNeeded(unittest.TestCase):

    def hold(self, rows, first, step, number, event):
        """Hold known and needed for a beat with or without end, and return whether it ended in a narrow stretch."""
        wording = built(rows)
        looks = played.enough_looks(rows, first, step, event) if number is None else number
        told = played.known_by_number(rows, first, step, looks, event)
        asked = (rows, first, step, number, event)
        self.assertEqual(known(wording, Beat(first, step, number), event), told[-1], asked)
        widths = sorted({played.width_of(stretch) for stretch in told} - {None})
        for width in {1, 2} | {w + more for w in widths for more in (-1, 0, 1) if w + more > 0}:
            self.assertEqual(needed(wording, Beat(first, step, number), event, width),
                             played.needed(told, width), asked + (width,))
        return None not in told[-1]

    def test_events_and_looks_one_by_one_without_end(self):
        chance = random.Random(400)
        narrow = 0
        for rows in played.steady_small(401, 350):
            narrow += self.hold(rows, chance.randint(-9, 9), chance.randint(1, 9), None, chance.randint(-25, 25))
        self.assertGreater(narrow, 150)

    def test_events_and_looks_one_by_one_with_an_end(self):
        chance = random.Random(402)
        narrow = 0
        for rows in played.steady_small(403, 700):
            self.hold(rows, chance.randint(-9, 9), chance.randint(1, 9), 0, chance.randint(-25, 25))
            narrow += self.hold(rows, chance.randint(-9, 9), chance.randint(1, 9), chance.randint(1, 15),
                                chance.randint(-40, 60))
        self.assertGreater(narrow, 250)

    def test_rows_that_go_on_as_the_one_before(self):
        chance = random.Random(404)
        for rows in one_row_wordings(7):
            for _ in range(3):
                cut = going_on(chance, going_on(chance, rows))
                self.hold(cut, chance.randint(-9, 9), chance.randint(1, 9), chance.choice((None, 3, 8)),
                          chance.randint(-25, 15))

    def test_one_row_all_small_beats(self):
        for unit in range(1, 7):
            for way in WAYS:
                for step in range(1, 8):
                    for event in range(-unit, 3):
                        self.hold([(None, unit, way, "m")], 0, step, None, event)

    def test_two_rows(self):
        chance = random.Random(405)
        for rows in chance.sample(two_row_wordings(6, 4), 400):
            if built(rows).returns() is None:
                self.hold(rows, chance.randint(-4, 4), chance.randint(1, 6), chance.choice((None, 1, 2, 5, 9)),
                          chance.randint(-12, 8))

    def test_as_same_events(self):
        chance = random.Random(406)
        for rows in played.steady_small(407, 300, most_rows=6):
            first, step, number = chance.randint(-9, 9), chance.randint(1, 30), chance.randint(0, 12)
            event = chance.randint(-60, 60)
            self.assertEqual(known(built(rows), Beat(first, step, number), event),
                             same_events(built(rows), [first + k * step for k in range(number)], event))


class Known(unittest.TestCase):

    def test_no_looks(self):
        for rows in (USUAL, FINE):
            self.assertEqual(known(built(rows), Beat(5, 3, 0), 5), (None, None))

    def test_the_event_before_between_and_behind_the_looks(self):
        wording = built(USUAL)
        self.assertEqual(known(wording, Beat(0, 100, 5), -20), (-39, -20))
        self.assertEqual(known(wording, Beat(0, 100, 5), 150), (141, 160))
        self.assertEqual(known(wording, Beat(0, 100, 5), 200), (181, 200))
        self.assertEqual(known(wording, Beat(0, 100, 5), 400), (341, 400))
        self.assertEqual(known(wording, Beat(0, 100, 5), 401), (401, None))
        self.assertEqual(known(wording, Beat(0, 100, 1), 10 ** 9), (1, None))

    def test_a_last_row_that_does_not_count(self):
        wording = built([(60, None, "down", "now"), (None, None, "up", "old")])
        self.assertEqual(known(wording, Beat(0, 7, None), -60), (None, -60))
        self.assertEqual(known(wording, Beat(0, 7, None), -59), (-59, -53))
        self.assertEqual(known(one_row(None), Beat(0, 7, None), -59), (None, 0))
        self.assertEqual(known(one_row(None), Beat(0, 7, None), 1), (1, 7))

    def test_without_end_it_has_at_most_the_common_divisor(self):
        for step in range(1, 40):
            low, high = known(one_row(60), Beat(0, step, None), -100)
            self.assertEqual(high - low + 1, math.gcd(step, 60))

    def test_with_more_looks_it_never_gets_longer(self):
        for number in (1, 10, 10 ** 10, 10 ** 20, 10 ** 29, GREAT, 10 ** 31 - 1, None):
            low, high = known(one_row(ONE), Beat(0, OTHER, number), -12345)
            self.assertTrue(low <= -12345 <= high)
            if number != 1:
                self.assertTrue(last_low <= low and high <= last_high)
            last_low, last_high = low, high
        self.assertEqual((low, high), (-12345, -12345))

    def test_great_units_and_steps_in_one_row(self):
        chance = random.Random(410)
        for _ in range(300):
            unit, step = chance.randint(1, 10 ** chance.randint(1, 31)), chance.randint(1, 10 ** chance.randint(1, 31))
            number, age = chance.randint(1, 10 ** chance.randint(1, 31)), chance.randint(0, 10 ** 31)
            low, high = known(one_row(unit), Beat(0, step, number), -age)
            self.hold_nearest(age, step, unit, number, high + age, -age - low + 1)

    def hold_nearest(self, age, step, unit, number, past, ahead):
        """Hold the least remainder and the least distance from the next multiple, by counting remainders."""
        self.assertEqual(played.times_below(age, step, unit, number, past), 0)
        self.assertGreater(played.times_below(age, step, unit, number, past + 1), 0)
        self.assertEqual(played.times_below(age, step, unit, number, unit - ahead + 1), number)
        self.assertLess(played.times_below(age, step, unit, number, unit - ahead), number)

    def test_great_without_end(self):
        wording = one_row(ONE)
        self.assertEqual(known(wording, Beat(3, OTHER, None), -GREAT), (-GREAT, -GREAT))
        self.assertEqual(known(one_row(7 * FACTOR), Beat(0, 3 * FACTOR, None), -GREAT),
                         (-GREAT - FACTOR + GREAT % FACTOR + 1, -GREAT + GREAT % FACTOR))
        self.assertEqual(known(wording, Beat(0, ONE, None), -5), (1 - ONE, 0))

    def test_great_beats_with_the_event_behind_them(self):
        self.assertEqual(known(one_row(ONE), Beat(0, 1, GREAT), GREAT), (GREAT, None))
        self.assertEqual(known(one_row(ONE), Beat(0, 3, GREAT), GREAT), (GREAT, GREAT + 2))
        self.assertEqual(known(one_row(ONE), Beat(0, 7, None), 10 ** 31 + 1), (10 ** 31 - 2, 10 ** 31 + 4))
        self.assertEqual(known(one_row(ONE), Beat(-GREAT, OTHER, 2), 10 ** 31), (-10, None))

    def test_a_row_from_1_to_the_greatest_number(self):
        self.assertEqual(known(built(FINE), Beat(0, 1, None), -5), (-5, -5))
        self.assertEqual(known(built(FINE), Beat(0, ONE, 1), -5), (-5, -5))
        self.assertEqual(known(built(FINE), Beat(GREAT, ONE, 1), -5), (GREAT - 2 * ONE + 1, 0))
        self.assertEqual(known(built(FINE), Beat(GREAT, OTHER, None), -5), (-5, -5))

    def test_multiplied(self):
        chance = random.Random(411)
        for rows in played.all_down(played.steady_small(412, 300)):
            first, step, event = chance.randint(-9, 9), chance.randint(1, 9), chance.randint(-30, 20)
            number = chance.choice((None, chance.randint(0, 12)))
            looks = played.enough_looks(rows, first, step, event) if number is None else number
            told = played.known_by_number(rows, first, step, looks, event)
            low, high = told[-1]
            wording = built(played.multiplied(rows, FACTOR))
            beat = Beat(first * FACTOR, step * FACTOR, number)
            self.assertEqual(known(wording, beat, event * FACTOR), (None if low is None else (low - 1) * FACTOR + 1,
                                                                    None if high is None else high * FACTOR))
            for width in range(1, 8):
                for more in (0, FACTOR - 1):
                    self.assertEqual(needed(wording, beat, event * FACTOR, width * FACTOR + more),
                                     played.needed(told, width))

    def test_unsteady_first_of_all(self):
        for number in (None, 0, 5):
            with self.assertRaises(Unsteady) as caught:
                known(built(BACK), Beat(0, 60, number), -7)
            self.assertEqual(caught.exception.age, 600)


class Needed(unittest.TestCase):

    def test_ordinary(self):
        wording = one_row(60)
        self.assertEqual(needed(wording, Beat(0, 42, None), -100, 60), 1)
        self.assertEqual(needed(wording, Beat(0, 42, None), -100, 59), 2)
        self.assertEqual(needed(wording, Beat(0, 42, None), -100, 6), 10)
        self.assertIsNone(needed(wording, Beat(0, 42, None), -100, 5))
        self.assertIsNone(needed(wording, Beat(0, 42, 9), -100, 6))
        self.assertEqual(needed(wording, Beat(0, 42, 10), -100, 6), 10)

    def test_never_enough(self):
        self.assertIsNone(needed(one_row(60), Beat(0, 42, 0), -100, 10 ** 31))
        self.assertIsNone(needed(one_row(60), Beat(0, 42, 9), 1000, 10 ** 31))
        self.assertIsNone(needed(one_row(None), Beat(0, 42, None), -100, 10 ** 31))
        self.assertIsNone(needed(one_row(60), Beat(0, 42, None), -100, 1))

    def test_the_event_behind_many_looks(self):
        # The look at 10 ** 30 is the first one that shows the event at all.
        self.assertEqual(needed(one_row(60), Beat(0, 1, None), GREAT, 60), GREAT + 1)
        self.assertEqual(needed(one_row(60), Beat(0, 1, GREAT + 1), GREAT, 1), GREAT + 1)
        self.assertIsNone(needed(one_row(60), Beat(0, 1, GREAT), GREAT, 60))
        self.assertEqual(needed(one_row(None), Beat(0, 7, None), 10 ** 31 + 1, 7), (10 ** 31 + 1) // 7 + 2)

    def test_inside_a_row_without_edges(self):
        # Each look is nearer to the edge at 10 ** 30, and the first one was 5 behind the event.
        wording = built([(GREAT, None, "down", "now"), (None, None, "down", "old")])
        self.assertEqual(needed(wording, Beat(0, 1, None), -5, 6), GREAT - 5)
        self.assertEqual(needed(wording, Beat(0, 1, None), -5, 7), GREAT - 6)
        self.assertEqual(needed(wording, Beat(0, 10, None), -5, 10), (GREAT - 10) // 10 + 1)
        self.assertIsNone(needed(wording, Beat(0, 10, None), -5, 9))

    def test_great(self):
        chance = random.Random(420)
        for _ in range(150):
            unit, step = chance.randint(1, 10 ** chance.randint(1, 31)), chance.randint(1, 10 ** chance.randint(1, 31))
            age, wording = chance.randint(0, 10 ** 31), one_row(unit)
            divisor = math.gcd(unit, step)
            width = divisor + chance.randint(0, 10 ** chance.randint(0, 31))
            number = needed(wording, Beat(0, step, None), -age, width)
            self.assertLessEqual(played.width_of(known(wording, Beat(0, step, number), -age)), width)
            if number > 1:
                self.assertGreater(played.width_of(known(wording, Beat(0, step, number - 1), -age)), width)
            self.assertEqual(needed(wording, Beat(0, step, number), -age, width), number)
            self.assertIsNone(needed(wording, Beat(0, step, number - 1), -age, width))
            if divisor > 1:
                self.assertIsNone(needed(wording, Beat(0, step, None), -age, divisor - 1))

    def test_great_rows(self):
        wording = built(FINE)
        self.assertEqual(needed(wording, Beat(0, 1, None), -5, 1), 1)
        self.assertEqual(needed(wording, Beat(0, OTHER, None), OTHER + 2, 1), 3)
        # "1 m" is shown from 10 ** 30 on, one age later than it would be without the row ahead of it.
        self.assertEqual(needed(wording, Beat(GREAT, ONE, None), 0, ONE - 1), 1)
        self.assertIsNone(needed(wording, Beat(GREAT, ONE, None), 0, ONE - 2))

    def test_unsteady_first_of_all(self):
        for number in (None, 0, 5):
            with self.assertRaises(Unsteady) as caught:
                needed(built(BACK), Beat(0, 60, number), -7, 5)
            self.assertEqual(caught.exception.age, 600)


class Runs(unittest.TestCase):
    """The part of the program in which looks at an even row of edges are counted."""

    def test_looks_one_by_one(self):
        for unit in range(1, 25):
            for step in range(1, 27):
                for first in range(0, unit, 1 + unit // 7):
                    pasts, aheads = {}, {}
                    for k in range(2 * unit):
                        past = (first + k * step) % unit
                        if k == 0 or past < min(pasts.values()):
                            pasts[k] = past
                        if k == 0 or unit - past < min(aheads.values()):
                            aheads[k] = unit - past
                    told = {True: {}, False: {}}
                    last = 0
                    for run in even_runs(first, step, unit):
                        self.assertGreaterEqual(run.look, last)
                        for k in range(run.times):
                            told[run.is_past][run.look + k * run.gap] = run.distance - k * run.drop
                        last = run.last_look()
                    self.assertEqual(told, {True: pasts, False: aheads}, (first, step, unit))

    def test_there_are_few_runs(self):
        chance = random.Random(430)
        for _ in range(300):
            unit, step = chance.randint(1, 10 ** 31), chance.randint(1, 10 ** chance.randint(1, 31))
            self.assertLess(len(even_runs(chance.randint(0, 10 ** 31), step, unit)), 400)
        golden = [1, 1]
        while golden[-1] < 10 ** 31:
            golden.append(golden[-1] + golden[-2])
        self.assertLess(len(even_runs(5, golden[-2], golden[-1])), 400)
        self.assertLess(len(even_runs(5, ONE - 1, ONE)), 9)
        self.assertLess(len(even_runs(5, 1, ONE)), 9)


class Arguments(unittest.TestCase):

    def test_by_name(self):
        wording, beat = one_row(60), Beat(0, 42, None)
        self.assertEqual(known(event=-100, beat=beat, wording=wording), (-101, -96))
        self.assertEqual(needed(width=6, event=-100, beat=beat, wording=wording), 10)

    def test_nothing_changes_and_the_same_is_told_twice(self):
        wording, beat = one_row(60), Beat(0, 42, 7)
        for _ in range(3):
            self.assertEqual(known(wording, beat, -100), (-107, -96))
            self.assertEqual(needed(wording, beat, -100, 20), 4)
            self.assertEqual(needed(one_row(60), Beat(0, 42, 7), -100, 20), 4)
        self.assertEqual((beat.first, beat.step, beat.number), (0, 42, 7))
        self.assertEqual(wording, one_row(60))

    def test_what_is_told_may_be_passed_on_however_great(self):
        great = 10 ** 5000 + 77
        self.assertEqual(known(one_row(60), Beat(0, 42, None), -great),
                         (-great + great % 6 - 5, -great + great % 6))
        self.assertEqual(needed(one_row(60), Beat(0, 7, None), great, 60), -(-great // 7) + 1)
        self.assertEqual(known(one_row(60), Beat(great, 42, great), great - 100), (great - 101, great - 96))
        unit, step = great * 3, great * 2 + 1
        low, high = known(one_row(unit), Beat(0, step, great), -5)
        number = needed(one_row(unit), Beat(0, step, None), -5, high - low + 1)
        self.assertLessEqual(number, great)
        self.assertEqual(known(one_row(unit), Beat(0, step, number), -5), (low, high))

    def test_it_takes_well_under_a_second(self):
        rows = [(10 ** 29, ONE - 10 ** 29, "up", "a"), (2 * GREAT, 1, "down", "b"), (5 * GREAT, 10 ** 17 + 3, "near", "c"),
                (7 * GREAT, None, "down", "d"), (10 ** 31 - 1, 10 ** 12 + 39, "up", "e"), (None, ONE, "near", "f")]
        wording = built(rows)
        for number in (None, GREAT, 10 ** 31 - 1):
            for step in (OTHER, 10 ** 15 + 37, 1):
                for event in (-GREAT, 0, GREAT):
                    begun = time.process_time()
                    known(wording, Beat(0, step, number), event)
                    needed(wording, Beat(0, step, number), event, 1)
                    self.assertLess(time.process_time() - begun, 0.5)


if __name__ == "__main__":
    unittest.main()
