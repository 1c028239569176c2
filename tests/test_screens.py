"""[50] Screen, worded and shows, [51] latest and skipped, [52] greatest_waits."""

import math
import random
import time
import unittest

from agewords.errors import AgeError, BadAge, BadRow, Unsteady
from agewords.screens import Screen, greatest_waits, latest, skipped
from agewords.wordings import Row, Wording
from tests import played
from tests.walked import WAYS, built, going_on, one_row_wordings, small_wordings, two_row_wordings

GREAT = 10 ** 30
ONE, OTHER = 10 ** 30 - 1, 10 ** 30 - 11
FACTOR = 10 ** 28 + 7

USUAL = [(60, None, "down", "now"), (3600, 60, "down", "m"), (None, 3600, "near", "h")]
BACK = [(600, 60, "down", "m"), (None, 120, "down", "m")]
FINE = [(1, None, "down", "now"), (GREAT, 1, "down", "s"), (None, ONE, "down", "m")]


def screen_of(rows, waits):
    return Screen(built(rows), waits)


def one_row(unit, wait, way="down"):
    return screen_of([(None, unit, way, "m")], [wait])


def random_waits(chance, rows):
    most = chance.choice((2, 5, 9, 30))
    return [chance.randint(1, most) for _ in rows]


def random_start(chance, rows):
    """A start in any of the rows."""
    return chance.choice([0] + [row[0] for row in rows if row[0]]) + chance.randint(0, 6)


class ScreenItself(unittest.TestCase):

    def test_attributes(self):
        wording = built(USUAL)
        screen = Screen(waits=[1, 2, 3], wording=wording)
        self.assertEqual((screen.wording, screen.waits), (wording, (1, 2, 3)))
        self.assertIs(type(screen.waits), tuple)
        self.assertEqual(Screen(wording, (1, 2, 3)).waits, (1, 2, 3))

    def test_it_copies_its_waits(self):
        waits = [10, 60, 600]
        screen = Screen(built(USUAL), waits)
        waits[0] = 1
        waits.pop()
        self.assertEqual(screen.waits, (10, 60, 600))
        self.assertEqual(screen.worded(0, 59), 50)


class Worded(unittest.TestCase):

    def test_ordinary(self):
        screen = screen_of(USUAL, [25, 100, 1000])
        told = [screen.worded(0, age) for age in (0, 24, 25, 74, 75, 174, 175, 3574, 3575, 3674, 3675, 4675)]
        self.assertEqual(told, [0, 0, 25, 50, 75, 75, 175, 3475, 3575, 3575, 3675, 4675])
        self.assertEqual([screen.worded(70, age) for age in (70, 169, 170)], [70, 70, 170])
        self.assertEqual([screen.shows(0, age) for age in (0, 74, 75, 119, 120, 175)],
                         [("now", None), ("now", None), ("m", 1), ("m", 1), ("m", 1), ("m", 2)])

    def test_a_wait_greater_than_whole_rows(self):
        screen = screen_of([(10, None, "down", "a"), (20, 1, "down", "b"), (30, 1, "down", "c"), (None, 5, "up", "d")],
                           [7, 30, 1, 100])
        self.assertEqual([screen.worded(0, age) for age in (6, 13, 14, 29, 43, 44, 143, 144)],
                         [0, 7, 14, 14, 14, 44, 44, 144])
        self.assertEqual(screen.shows(0, 43), ("b", 14))
        screen = screen_of([(10, None, "down", "a"), (20, 1, "down", "b"), (30, 1, "down", "c"), (None, 5, "up", "d")],
                           [30, 1, 1, 100])
        self.assertEqual([screen.worded(0, age) for age in (29, 30, 129)], [0, 30, 30])
        self.assertEqual([screen.worded(9, age) for age in (38, 39)], [9, 39])

    def test_bad_ages_in_their_order(self):
        screen = screen_of(USUAL, [1, 2, 3])
        for told in (screen.worded, screen.shows):
            for start, age, wrong in ((-1, 5, -1), (-1, -2, -1), (-2, -1, -2), (0, -1, -1), (5, 4, 4), (61, 0, 0),
                                      (-5, -5, -5), (7, -GREAT, -GREAT), (-GREAT, 0, -GREAT)):
                with self.assertRaises(BadAge) as caught:
                    told(start, age)
                self.assertEqual(caught.exception.age, wrong)
            self.assertIsNotNone(told(5, 5))

    def test_the_wording_need_not_be_steady(self):
        screen = screen_of(BACK, [60, 60])
        self.assertEqual((screen.worded(0, 659), screen.shows(0, 659)), (600, ("m", 5)))

    def test_age_by_age(self):
        chance = random.Random(500)
        for rows in small_wordings(501, 500, most_rows=4):
            waits, start = random_waits(chance, rows), random_start(chance, rows)
            screen = screen_of(rows, waits)
            for age in range(start, start + 60):
                at = played.worded(rows, waits, start, age)
                self.assertEqual(screen.worded(start, age), at, (rows, waits, start, age))
                self.assertEqual(screen.shows(start, age), played.label_of(rows, at))

    def test_great(self):
        screen = screen_of(FINE, [1, 1, OTHER])
        self.assertEqual(screen.worded(0, GREAT - 1), GREAT - 1)
        self.assertEqual(screen.worded(0, GREAT + OTHER - 1), GREAT)
        self.assertEqual(screen.worded(0, 10 ** 31), GREAT + 9 * OTHER)
        self.assertEqual(screen.shows(0, 10 ** 31), ("m", 9))
        screen = screen_of(FINE, [7, 3, 10 ** 31 - 1])
        self.assertEqual(screen.worded(0, GREAT - 1), 7 + (GREAT - 8) // 3 * 3)
        self.assertEqual(screen.worded(5, 5 * GREAT), 5 + (GREAT - 6) // 3 * 3 + 3)

    def test_multiplied(self):
        chance = random.Random(502)
        for rows in small_wordings(503, 200, most_rows=4):
            waits, start = random_waits(chance, rows), random_start(chance, rows)
            screen = screen_of(played.multiplied(rows, FACTOR), [wait * FACTOR for wait in waits])
            for age in range(start, start + 30):
                told = screen.worded(start * FACTOR, age * FACTOR + chance.randrange(FACTOR))
                self.assertEqual(told, played.worded(rows, waits, start, age) * FACTOR)


class Late(unittest.TestCase):
    """latest and skipped beside a screen that is played age by age."""

    def hold(self, rows, waits, start, until):
        screen = screen_of(rows, waits)
        asked = (rows, waits, start, until)
        late, age = latest(screen, start, until)
        lates = played.lates(rows, waits, start, until)
        self.assertEqual(late, max(lates.values()), asked)
        if late == 0:
            self.assertEqual(age, start, asked)
        else:
            end = age + 1 if until is None else until
            self.assertLess(age, end, asked)
            self.assertEqual(played.lates(rows, waits, start, end).get(age), late, asked)
        edge = played.skipped(rows, waits, start, until)
        self.assertEqual(skipped(screen, start, until), edge, asked)
        return (late, edge)

    def hold_all(self, seed, all_rows, times=3):
        chance = random.Random(seed)
        answers = []
        for rows in all_rows:
            for _ in range(times):
                start = random_start(chance, rows)
                until = chance.choice((None, start + 1, start + chance.randint(1, 40)))
                answers.append(self.hold(rows, random_waits(chance, rows), start, until))
        self.assertGreater(len([1 for late, _ in answers if late == 0]), len(answers) // 20)
        self.assertGreater(len([1 for late, edge in answers if late > 0 and edge is None]), len(answers) // 10)
        self.assertGreater(len([1 for late, edge in answers if edge is not None]), len(answers) // 10)

    def test_one_row(self):
        for unit in range(1, 9):
            for way in WAYS:
                for wait in range(1, 20):
                    for start in (0, 1, 5):
                        self.hold([(None, unit, way, "m")], [wait], start, None)
                        self.hold([(None, unit, way, "m")], [wait], start, start + wait + unit)

    def test_two_rows(self):
        steady = [rows for rows in two_row_wordings(7, 4) if built(rows).returns() is None]
        self.hold_all(510, random.Random(511).sample(steady, 500))

    def test_one_to_four_rows(self):
        self.hold_all(512, played.steady_small(513, 800))

    def test_rows_that_go_on_as_the_one_before(self):
        chance = random.Random(514)
        self.hold_all(515, [going_on(chance, going_on(chance, rows)) for rows in one_row_wordings(7)], 12)

    def test_multiplied(self):
        chance = random.Random(516)
        for rows in played.all_down(played.steady_small(517, 300)):
            waits, start = random_waits(chance, rows), random_start(chance, rows)
            until = chance.choice((None, start + chance.randint(1, 40)))
            late, edge = self.hold(rows, waits, start, until)
            screen = screen_of(played.multiplied(rows, FACTOR), [wait * FACTOR for wait in waits])
            until = until and until * FACTOR
            told, age = latest(screen, start * FACTOR, until)
            self.assertEqual(told, late * FACTOR)
            self.assertEqual(age % FACTOR, 0)
            self.assertEqual(skipped(screen, start * FACTOR, until), edge and edge * FACTOR)


def divisors(number):
    """Some divisors of a great number, and the number itself."""
    return [number // k for k in range(1, 60) if number % k == 0]


class Latest(unittest.TestCase):

    def test_ordinary(self):
        screen = screen_of(USUAL, [60, 60, 1800])
        self.assertEqual(latest(screen, 0, None), (0, 0))
        # From 30 on it words at 90, 150, .., 3570, each time 30 ahead of an edge, then at 3630, 5430 and so on.
        self.assertEqual(latest(screen, 30, 3570)[0], 30)
        self.assertEqual(latest(screen, 30, None)[0], 30)
        self.assertEqual(latest(screen_of(USUAL, [60, 60, 2000]), 30, 3631), (3630 + 2000 - 5400, 3630))
        self.assertEqual(latest(one_row(60, 100), 0, 70), (40, 0))
        self.assertEqual(latest(one_row(60, 100), 0, None)[0], 80)

    def test_none_late(self):
        self.assertEqual(latest(one_row(60, 1), 7, None), (0, 7))
        self.assertEqual(latest(one_row(None, GREAT), GREAT, None), (0, GREAT))
        self.assertEqual(latest(one_row(GREAT, 7), 5, 1000), (0, 5))

    def test_until_chooses_wordings_alone(self):
        # The wording at 0 is the only one ahead of 1, and it is shown up to 99.
        self.assertEqual(latest(one_row(60, 100), 0, 1), (40, 0))
        self.assertEqual(latest(one_row(60, 100), 0, 100), (40, 0))
        self.assertEqual(latest(one_row(60, 100), 0, 101), (80, 100))

    def test_great_without_end(self):
        for unit, wait in ((ONE, OTHER), (OTHER, ONE), (GREAT, 3), (10 ** 17 + 3, GREAT), (6 * FACTOR, 4 * FACTOR)):
            for start in (0, 5, GREAT):
                for way in WAYS:
                    more = {"down": 0, "up": 1, "near": unit - unit // 2}[way]
                    screen = one_row(unit, wait, way)
                    divisor = math.gcd(unit, wait)
                    # Wordings come as near to the next edge as their common divisor allows.
                    ahead = (more - start - 1) % divisor + 1
                    late, age = latest(screen, start, None)
                    self.assertEqual(late, max(0, wait - ahead))
                    if late > 0:
                        self.assertEqual(((age - start) % wait, (more - age) % unit), (0, ahead % unit))
                        self.assertEqual(screen.wording.later_edge(age), age + ahead)

    def test_great_with_an_end(self):
        chance = random.Random(520)
        for _ in range(200):
            unit, wait = chance.randint(1, 10 ** chance.randint(1, 31)), chance.randint(1, 10 ** chance.randint(1, 31))
            start, number = chance.randint(0, 10 ** 31), chance.randint(1, 10 ** chance.randint(1, 31))
            until = start + (number - 1) * wait + chance.randint(1, wait)
            late, age = latest(one_row(unit, wait), start, until)
            if late == 0:
                self.assertEqual(age, start)
                if wait <= unit:
                    self.assertEqual(played.times_below(start, wait, unit, number, unit - wait + 1), number)
                continue
            self.assertEqual((age - start) % wait, 0)
            self.assertTrue(start <= age < until)
            self.assertEqual(late, wait - unit + age % unit)
            # No remainder is greater than that of this wording.
            self.assertEqual(played.times_below(start, wait, unit, number, age % unit + 1), number)

    def test_a_row_from_1_to_the_greatest_number(self):
        self.assertEqual(latest(screen_of(FINE, [1, 1, 1]), 0, None), (0, 0))
        self.assertEqual(latest(screen_of(FINE, [2, 1, 1]), 0, None), (1, 0))
        self.assertEqual(latest(screen_of(FINE, [1, 1, OTHER]), 0, GREAT), (0, 0))
        self.assertEqual(latest(screen_of(FINE, [1, 1, OTHER]), 0, None)[0], OTHER - 1)
        late, age = latest(screen_of(FINE, [1, 5, 1]), 0, None)
        self.assertEqual((late, age % 5), (4, 1))
        self.assertLess(age, GREAT)
        # The last wording of this row is 3 ahead of its end, and 10 ** 31 ahead of the next wording.
        rows = [(1, None, "down", "now"), (GREAT, 1, "down", "s"), (None, None, "down", "m")]
        self.assertEqual(latest(screen_of(rows, [1, GREAT - 4, 1]), 0, None), (GREAT - 5, 1))

    def test_bad_start(self):
        for start in (-1, -GREAT):
            for until in (None, 5, -7):
                for told in (latest, skipped):
                    with self.assertRaises(BadAge) as caught:
                        told(one_row(60, 7), start, until)
                    self.assertEqual(caught.exception.age, start)

    def test_unsteady_first_of_all(self):
        for start, until in ((0, None), (-1, None), (-5, 3), (700, 800)):
            for told in (latest, skipped):
                with self.assertRaises(Unsteady) as caught:
                    told(screen_of(BACK, [60, 60]), start, until)
                self.assertEqual(caught.exception.age, 600)


class Skipped(unittest.TestCase):

    def test_ordinary(self):
        # It words at 0, 100, 200, 300: "0 m", "1 m", "3 m", "5 m".
        self.assertEqual(skipped(one_row(60, 100), 0, None), 120)
        self.assertEqual(skipped(one_row(60, 100), 50, None), 60)
        self.assertIsNone(skipped(one_row(60, 60), 59, None))
        self.assertEqual(skipped(one_row(60, 61), 0, None), 60 * 60)
        self.assertEqual(skipped(one_row(60, 1000), 0, None), 60)

    def test_until_chooses_edges_alone(self):
        self.assertEqual(skipped(one_row(60, 100), 0, 121), 120)
        self.assertIsNone(skipped(one_row(60, 100), 0, 120))
        self.assertIsNone(skipped(one_row(60, 100), 0, 1))

    def test_the_last_label_is_never_skipped(self):
        rows = [(10, None, "down", "a"), (20, None, "down", "b"), (None, None, "down", "c")]
        self.assertEqual(skipped(screen_of(rows, [20, 1, 1]), 0, None), 10)
        self.assertIsNone(skipped(screen_of(rows, [19, 1, 1]), 0, None))
        self.assertIsNone(skipped(screen_of(rows, [1, GREAT, 1]), 0, None))
        self.assertIsNone(skipped(screen_of(rows, [GREAT, GREAT, GREAT]), 10, None))

    def test_the_last_edge_of_a_row(self):
        # The edge at 23 comes sooner behind that at 19 than the unit says, and the one at 29 later again.
        rows = [(10, None, "down", "a"), (23, 6, "up", "b"), (None, 7, "up", "c")]
        self.assertEqual([b for b in range(1, 30) if built(rows).last_edge(b) == b], [10, 13, 19, 23, 29])
        self.assertIsNone(skipped(screen_of(rows, [1, 6, 1]), 13, None))
        self.assertIsNone(skipped(screen_of(rows, [1, 4, 1]), 18, None))
        self.assertEqual(skipped(screen_of(rows, [1, 5, 1]), 18, None), 19)
        self.assertEqual(skipped(screen_of(rows, [1, 5, 1]), 13, None), 19)
        self.assertIsNone(skipped(screen_of(rows, [1, 8, 1]), 20, None))
        self.assertEqual(skipped(screen_of(rows, [1, 9, 1]), 20, None), 23)

    def test_great(self):
        chance = random.Random(530)
        found = 0
        for _ in range(200):
            unit = chance.randint(10, 10 ** chance.randint(2, 31))
            wait, start = unit + chance.randint(1, unit), chance.randint(0, 10 ** 31)
            edge = skipped(one_row(unit, wait), start, None)
            # An edge is skipped behind a wording with at least this remainder.
            least = max(0, 2 * unit - wait)
            if edge is None:
                divisor = math.gcd(wait, unit)
                self.assertLess(unit - divisor + start % divisor, least)
                continue
            found += 1
            self.assertEqual(edge % unit, 0)
            number = (edge - start - 1) // wait
            age = start + number * wait
            self.assertGreaterEqual(age % unit, least)
            self.assertTrue(age < edge and edge + unit <= age + wait)
            self.assertEqual(played.times_below(start, wait, unit, number, least), number)
            self.assertEqual(skipped(one_row(unit, wait), start, edge + 1), edge)
            self.assertIsNone(skipped(one_row(unit, wait), start, edge))
        self.assertGreater(found, 100)

    def test_a_row_from_1_to_the_greatest_number(self):
        self.assertIsNone(skipped(screen_of(FINE, [1, 1, 1]), 0, None))
        self.assertEqual(skipped(screen_of(FINE, [1, 2, 1]), 0, None), 2)
        self.assertEqual(skipped(screen_of(FINE, [3, 1, 1]), 0, None), 1)
        self.assertEqual(skipped(screen_of(FINE, [1, 1, 2 * ONE]), 0, None), 2 * ONE)
        self.assertEqual(skipped(screen_of(FINE, [1, 1, OTHER]), 0, None), None)
        self.assertEqual(skipped(screen_of(FINE, [1, 1, ONE + 1]), GREAT, None), ONE * ONE)


class GreatestWaits(unittest.TestCase):

    def test_ordinary(self):
        self.assertEqual(greatest_waits(built(USUAL)), (60, 60, 1800))
        self.assertEqual(greatest_waits(built([(60, None, "down", "now"), (None, 7, "down", "m")])), (60, 1))
        self.assertEqual(greatest_waits(built([(60, None, "down", "now"), (None, None, "down", "m")])), (60, None))
        self.assertEqual(greatest_waits(built([(None, None, "down", "m")])), (None,))
        self.assertEqual(greatest_waits(built([(None, 60, "down", "m")])), (60,))
        self.assertEqual(greatest_waits(built([(None, 60, "up", "m")])), (1,))
        self.assertEqual(greatest_waits(built([(None, 60, "near", "m")])), (30,))
        self.assertEqual(greatest_waits(built([(90, 60, "down", "m"), (None, 60, "down", "h")])), (30, 30))

    def test_bad_rows(self):
        for rows, index in (([(90, 60, "down", "m"), (None, 60, "down", "m")], 0),
                            ([(60, None, "down", "a"), (70, None, "up", "a"), (None, None, "up", "a")], 0),
                            ([(60, None, "down", "a"), (90, 60, "down", "m"), (None, 60, "down", "m")], 1)):
            with self.assertRaises(BadRow) as caught:
                greatest_waits(built(rows))
            self.assertEqual(caught.exception.index, index)

    def test_unsteady_first_of_all(self):
        rows = [(30, 60, "down", "m"), (600, 60, "down", "m"), (None, 120, "down", "m")]
        with self.assertRaises(Unsteady) as caught:
            greatest_waits(built(rows))
        self.assertEqual(caught.exception.age, 600)

    def test_edges_one_by_one(self):
        wrong = 0
        all_rows = played.steady_small(540, 1500) + one_row_wordings(9)
        for rows in all_rows + [rows for rows in two_row_wordings(7, 4) if built(rows).returns() is None]:
            answer = played.greatest_waits(rows)
            if type(answer) is tuple:
                self.assertEqual(greatest_waits(built(rows)), answer, rows)
                continue
            wrong += 1
            with self.assertRaises(BadRow) as caught:
                greatest_waits(built(rows))
            self.assertEqual(caught.exception.index, answer, rows)
        self.assertGreater(wrong, 100)

    def test_never_late_exactly_if_each_wait_divides_its_number(self):
        chance = random.Random(541)
        never = 0
        for rows in played.steady_small(542, 900):
            if type(played.greatest_waits(rows)) is not tuple:
                continue
            greatest = greatest_waits(built(rows))
            for _ in range(4):
                waits = [chance.choice(divisors(number or 77)) for number in greatest]
                if chance.random() < 0.4:
                    waits[chance.randrange(len(waits))] = chance.randint(1, 9)
                divides = all(number is None or number % wait == 0 for number, wait in zip(greatest, waits))
                never += divides
                self.assertIs(max(played.lates(rows, waits, 0, None).values()) == 0, divides, (rows, waits))
                self.assertIs(latest(screen_of(rows, waits), 0, None) == (0, 0), divides)
        self.assertGreater(never, 300)

    def test_great(self):
        self.assertEqual(greatest_waits(built(FINE)), (1, 1, 1))
        rows = [(6 * FACTOR, None, "down", "now"), (36 * FACTOR, 10 * FACTOR, "down", "m"), (None, None, "up", "h")]
        self.assertEqual(greatest_waits(built(rows)), (6 * FACTOR, 2 * FACTOR, None))
        rows[1] = (36 * FACTOR, 10 * FACTOR, "up", "m")
        self.assertEqual(greatest_waits(built(rows)), (6 * FACTOR, 1, None))
        rows = [(ONE, None, "down", "now"), (10 ** 31 - 1, None, "down", "q"), (None, OTHER, "near", "h")]
        last = OTHER - OTHER // 2
        while last <= 10 ** 31 - 1:
            last += OTHER
        self.assertEqual(greatest_waits(built(rows)), (ONE, 9 * GREAT, math.gcd(last - 10 ** 31 + 1, OTHER)))

    def test_multiplied(self):
        for rows in played.all_down(played.steady_small(543, 300)):
            answer = played.greatest_waits(rows)
            if type(answer) is tuple:
                self.assertEqual(greatest_waits(built(played.multiplied(rows, FACTOR))),
                                 tuple(number and number * FACTOR for number in answer))


class Arguments(unittest.TestCase):

    def test_by_name(self):
        screen = one_row(60, 100)
        self.assertEqual(screen.worded(age=199, start=0), 100)
        self.assertEqual(screen.shows(age=199, start=0), ("m", 1))
        self.assertEqual(latest(until=70, start=0, screen=screen), (40, 0))
        self.assertEqual(skipped(until=None, start=0, screen=screen), 120)
        self.assertEqual(greatest_waits(wording=screen.wording), (60,))

    def test_nothing_changes_and_the_same_is_told_twice(self):
        screen = screen_of(USUAL, [25, 100, 1000])

        def told(asked):
            return (asked.worded(7, 10 ** 6), asked.shows(7, 10 ** 6), latest(asked, 7, None), latest(asked, 7, 4000),
                    skipped(asked, 7, None), skipped(asked, 7, 4000), greatest_waits(asked.wording))

        first = told(screen)
        self.assertEqual(told(screen), first)
        self.assertEqual(told(screen_of(USUAL, (25, 100, 1000))), first)
        self.assertEqual((screen.wording, screen.waits), (built(USUAL), (25, 100, 1000)))

    def test_a_call_that_raises_changes_nothing(self):
        screen = screen_of(USUAL, [25, 100, 1000])
        for call in (lambda: screen.worded(-1, 5), lambda: screen.shows(5, 4), lambda: latest(screen, -1, None),
                     lambda: skipped(screen, -1, None)):
            with self.assertRaises(AgeError):
                call()
        self.assertEqual((screen.wording, screen.waits), (built(USUAL), (25, 100, 1000)))

    def test_what_is_told_may_be_passed_on_however_great(self):
        great = 10 ** 5000 + 77
        screen = one_row(ONE, OTHER)
        age = screen.worded(5, great)
        self.assertEqual(((age - 5) % OTHER, 0 <= great - age < OTHER), (0, True))
        late, place = latest(screen, age, None)
        self.assertEqual((late, screen.wording.later_edge(place) - place), (OTHER - 1, 1))
        # Numbers of more than 4300 digits cannot be shown by a test that fails.
        self.assertTrue(latest(screen, age, place)[0] < late)
        edge = skipped(one_row(ONE, ONE + 5), age, None)
        self.assertTrue(skipped(one_row(ONE, ONE + 5), age, edge + 1) == edge)
        wide = Screen(Wording([Row(None, age, "down", "m")]), [edge])
        self.assertTrue(latest(wide, place, None)[0] == edge - (-place - 1) % math.gcd(age, edge) - 1)

    def test_it_takes_well_under_a_second(self):
        rows = [(10 ** 29, ONE - 10 ** 29, "up", "a"), (2 * GREAT, 1, "down", "b"), (5 * GREAT, 10 ** 17 + 3, "near", "c"),
                (7 * GREAT, None, "down", "d"), (10 ** 31 - 1, 10 ** 12 + 39, "up", "e"), (None, ONE, "near", "f")]
        for waits in ([1] * 6, [OTHER] * 6, [7, 1, 10 ** 17 + 9, 10 ** 31 - 1, 10 ** 12 + 61, OTHER]):
            screen = screen_of(rows, waits)
            for start in (0, GREAT, 10 ** 31 - 1):
                for until in (None, start + 1, 10 ** 31, 10 ** 60):
                    begun = time.process_time()
                    latest(screen, start, until)
                    skipped(screen, start, until)
                    screen.shows(start, 10 ** 31)
                    greatest_waits(screen.wording)
                    self.assertLess(time.process_time() - begun, 0.5)


if __name__ == "__main__":
    unittest.main()
