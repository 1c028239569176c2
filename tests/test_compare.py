"""[20] alike, [21] finer, [22] harmless."""

import math
import random
import unittest

from agewords.compare import alike, finer, harmless
from agewords.errors import Unsteady
from agewords.wordings import Row, Wording
from tests import walked
from tests.walked import (WAYS, Walked, built, far_age, going_on, one_row_wordings, random_rows, rounded,
                          steady_wordings, two_row_wordings)

GREAT = 10 ** 30
ONE, OTHER = 10 ** 30 - 1, 10 ** 30 - 11
FACTOR = 10 ** 28 + 7


def one_row(unit, way):
    return Wording([Row(None, unit, way, "m")])


def first_edge(unit, way):
    return {"down": unit, "up": 1, "near": unit - unit // 2}[way]


def scaled(rows):
    """With the way down, a wording that shows at ages multiplied by the factor what these rows show."""
    return [(until and until * FACTOR, unit and unit * FACTOR, "down", word) for until, unit, _, word in rows]


def down(rows):
    return [(until, unit, "down", word) for until, unit, _, word in rows]


def near_copy(chance, rows):
    """The wording with one thing of one row changed, if at all, so that it differs late or never."""
    rows = going_on(chance, rows) if chance.random() < 0.5 and len(rows) < 4 else list(rows)
    index = chance.randrange(len(rows))
    until, unit, way, word = rows[index]
    what = chance.randrange(5)
    if what == 0 and unit is not None:
        unit = max(1, unit + chance.choice((-1, 1)))
    elif what == 1:
        way = chance.choice(WAYS)
    elif what == 2:
        word = chance.choice("mh")
    elif what == 3 and unit is not None:
        unit *= 2
    rows[index] = (until, unit, way, word)
    return rows


class Alike(unittest.TestCase):

    def test_ordinary(self):
        usual = built([(60, None, "down", "now"), (3600, 60, "down", "m"), (None, 3600, "near", "h")])
        self.assertIsNone(alike(usual, usual))
        self.assertEqual(alike(usual, built([(60, None, "down", "now"), (None, 60, "down", "m")])), 3600)
        self.assertEqual(alike(usual, built([(61, None, "down", "now"), (None, 60, "down", "m")])), 60)
        self.assertEqual(alike(usual, built([(60, None, "up", "new"), (None, 60, "down", "m")])), 0)
        self.assertEqual(alike(one_row(60, "down"), one_row(60, "near")), 30)
        self.assertEqual(alike(one_row(60, "down"), one_row(None, "down")), 0)

    def test_rows_that_are_cut_or_ways_that_do_not_matter(self):
        self.assertIsNone(alike(one_row(60, "down"), built([(90, 60, "down", "m"), (None, 60, "down", "m")])))
        self.assertIsNone(alike(one_row(None, "down"), one_row(None, "up")))
        for way in WAYS:
            self.assertIsNone(alike(one_row(1, "down"), one_row(1, way)))
        self.assertIsNone(alike(one_row(2, "up"), one_row(2, "near")))
        self.assertEqual(alike(one_row(3, "up"), one_row(3, "near")), 1)

    def test_units_that_part_behind_common_edges(self):
        # Both show "1 m" from 12 to 23, and 24 is an edge of one of them only.
        one = built([(12, None, "down", "now"), (None, 12, "down", "m")])
        other = built([(12, None, "down", "now"), (30, 15, "up", "m"), (None, 12, "down", "m")])
        self.assertEqual(alike(one, other), 16)
        self.assertEqual(alike(one_row(4, "up"), one_row(5, "up")), 5)

    def hold(self, one, other):
        far = far_age(one, other)
        answer = walked.alike(Walked(one, far), Walked(other, far))
        self.assertEqual(alike(built(one), built(other)), answer, (one, other))
        self.assertEqual(alike(built(other), built(one)), answer, (one, other))
        return answer

    def test_walked_one_row(self):
        for one in one_row_wordings(6):
            for other in one_row_wordings(6):
                self.hold(one, other)

    def test_walked_two_rows(self):
        chance = random.Random(20)
        all_rows = two_row_wordings(5, 4)
        for one in all_rows:
            self.hold(one, chance.choice(all_rows))
            self.hold(one, near_copy(chance, one))

    def test_walked_up_to_six_rows(self):
        chance = random.Random(21)
        answers = []
        for _ in range(2500):
            one = random_rows(chance)
            answers.append(self.hold(one, near_copy(chance, near_copy(chance, one))))
        self.assertGreater(answers.count(None), 300)
        self.assertGreater(len(set(answers)), 25)

    def test_great_units(self):
        for way in WAYS:
            for other_way in WAYS:
                edges = (first_edge(ONE, way), first_edge(OTHER, other_way))
                answer = min(edges)
                if edges == (1, 1):
                    answer = OTHER + 1
                self.assertEqual(alike(one_row(ONE, way), one_row(OTHER, other_way)), answer)

    def test_rows_from_1_to_the_greatest_number(self):
        one = built([(1, None, "down", "now"), (GREAT, 1, "down", "s"), (None, ONE, "down", "m")])
        other = built([(1, None, "down", "now"), (GREAT, 1, "up", "s"), (None, OTHER, "down", "m")])
        self.assertEqual(alike(one, other), 2 * OTHER)
        other = built([(1, None, "down", "now"), (GREAT - 1, 1, "up", "s"), (None, ONE, "down", "m")])
        self.assertEqual(alike(one, other), GREAT - 1)
        other = built([(1, None, "down", "now"), (77, 1, "up", "s"), (GREAT, 1, "near", "s"), (None, ONE, "down", "m")])
        self.assertIsNone(alike(one, other))

    def test_scaled(self):
        chance = random.Random(22)
        for _ in range(400):
            one = down(random_rows(chance))
            other = down(near_copy(chance, one))
            answer = self.hold(one, other)
            told = alike(built(scaled(one)), built(scaled(other)))
            self.assertEqual(told, None if answer is None else answer * FACTOR)


class Finer(unittest.TestCase):

    def test_ordinary(self):
        usual = built([(60, None, "down", "now"), (3600, 60, "down", "m"), (None, 3600, "down", "h")])
        self.assertIsNone(finer(usual, usual))
        self.assertIsNone(finer(one_row(60, "down"), usual))
        self.assertEqual(finer(usual, one_row(60, "down")), 3660)
        self.assertIsNone(finer(usual, one_row(None, "down")))
        self.assertEqual(finer(one_row(None, "down"), usual), 60)
        self.assertIsNone(finer(one_row(30, "down"), one_row(60, "near")))
        self.assertEqual(finer(one_row(60, "down"), one_row(30, "down")), 30)
        self.assertEqual(finer(one_row(60, "down"), one_row(90, "down")), 90)

    def test_words_do_not_matter(self):
        one = built([(60, None, "down", "a"), (None, 60, "down", "b")])
        self.assertIsNone(finer(one, one_row(60, "down")))
        self.assertIsNone(finer(one_row(60, "down"), one))

    def test_other_need_not_be_steady(self):
        back = built([(600, 60, "down", "m"), (None, 120, "down", "m")])
        twice = built([(5, None, "down", "a"), (9, None, "down", "b"), (None, None, "down", "a")])
        self.assertIsNone(finer(one_row(60, "down"), back))
        self.assertEqual(finer(one_row(60, "down"), twice), 5)
        self.assertIsNone(finer(one_row(1, "down"), twice))
        self.assertEqual(finer(one_row(5, "down"), twice), 9)

    def test_unsteady(self):
        back = built([(600, 60, "down", "m"), (None, 120, "down", "m")])
        for other in (back, one_row(60, "down")):
            with self.assertRaises(Unsteady) as caught:
                finer(back, other)
            self.assertEqual(caught.exception.age, 600)

    def hold(self, one, other):
        # Behind the last until edges come again after the least common multiple of both units at the latest.
        far = far_age(one, other) + 3 * math.lcm(one[-1][1] or 1, other[-1][1] or 1)
        ones, others = Walked(one, far), Walked(other, far)
        answer = walked.missed_edge(ones, others)
        self.assertEqual(finer(built(one), built(other)), answer, (one, other))
        self.assertEqual(walked.is_finer(ones, others), answer is None, (one, other))
        return answer

    def test_walked_one_row(self):
        answers = [self.hold(one, other) for one in one_row_wordings(6) for other in one_row_wordings(12)]
        self.assertGreater(answers.count(None), 50)

    def test_walked_up_to_six_rows(self):
        chance = random.Random(23)
        answers = []
        for one in steady_wordings(24, 700):
            answers.append(self.hold(one, random_rows(chance)))
            answers.append(self.hold(one, near_copy(chance, one)))
            answers.append(self.hold(one, [(row[0], row[1] and 2 * row[1], row[2], "m") for row in one]))
            answers.append(self.hold(one, [(row[0], row[1] and 3 * row[1], row[2], "m") for row in one[-1:]]))
        self.assertGreater(answers.count(None), 200)
        self.assertGreater(len(set(answers)), 20)

    def test_great_units(self):
        for way in WAYS:
            for other_way in WAYS:
                edge = first_edge(OTHER, other_way)
                if (edge - first_edge(ONE, way)) % ONE == 0:
                    edge += OTHER
                self.assertEqual(finer(one_row(ONE, way), one_row(OTHER, other_way)), edge)
        self.assertIsNone(finer(one_row(ONE, "up"), one_row(10 ** 25 * ONE, "up")))
        self.assertIsNone(finer(one_row(ONE, "near"), one_row(3 * ONE, "near")))
        self.assertEqual(finer(one_row(ONE, "near"), one_row(2 * ONE, "near")), ONE)

    def test_rows_from_1_to_the_greatest_number(self):
        one = built([(1, None, "down", "now"), (GREAT, 1, "down", "s"), (None, ONE, "down", "m")])
        self.assertEqual(finer(one, one_row(7, "near")), GREAT - GREAT % 7 + 4)
        self.assertEqual(finer(one, built([(GREAT, 2, "up", "s"), (None, OTHER, "up", "m")])), 2 * OTHER + 1)
        self.assertIsNone(finer(one_row(1, "up"), one))
        self.assertEqual(finer(one_row(2, "down"), one), 1)

    def test_scaled(self):
        chance = random.Random(25)
        done = 0
        for one in [down(rows) for rows in steady_wordings(26, 300)]:
            if Walked(one, far_age(one)).returns() is None:
                done += 1
                other = down(near_copy(chance, one))
                answer = self.hold(one, other)
                told = finer(built(scaled(one)), built(scaled(other)))
                self.assertEqual(told, None if answer is None else answer * FACTOR)
        self.assertGreater(done, 100)


class Harmless(unittest.TestCase):

    def test_ordinary(self):
        usual = built([(60, None, "down", "now"), (3600, 60, "down", "m"), (None, 3600, "down", "h")])
        self.assertIsNone(harmless(usual, 60, "down"))
        self.assertIsNone(harmless(usual, 30, "down"))
        self.assertEqual(harmless(usual, 60, "near"), 30)
        self.assertEqual(harmless(usual, 60, "up"), 1)
        self.assertEqual(harmless(usual, 120, "down"), 60)
        self.assertEqual(harmless(usual, 7, "down"), 60)
        self.assertEqual(harmless(usual, 7, "up"), 57)
        # 60 is the first age that is brought to 63, so it does no harm.
        self.assertEqual(harmless(usual, 7, "near"), 120)

    def test_step_1_is_always_harmless(self):
        for rows in steady_wordings(27, 50):
            for way in WAYS:
                self.assertIsNone(harmless(built(rows), 1, way))

    def test_nothing_is_harmed_where_all_is_the_same(self):
        for way in WAYS:
            self.assertIsNone(harmless(one_row(None, "up"), 10 ** 30, way))

    def test_the_ways_together(self):
        for way in WAYS:
            self.assertIsNone(harmless(one_row(60, way), 60, way))
            self.assertIsNone(harmless(one_row(180, way), 60, way))
        self.assertIsNone(harmless(one_row(60, "near"), 30, "down"))
        self.assertEqual(harmless(one_row(60, "near"), 20, "down"), 30)
        self.assertIsNone(harmless(one_row(4, "up"), 2, "near"))

    def test_unsteady(self):
        back = built([(600, 60, "down", "m"), (None, 120, "down", "m")])
        for step in (1, 60, 7):
            for way in WAYS:
                with self.assertRaises(Unsteady) as caught:
                    harmless(back, step, way)
                self.assertEqual(caught.exception.age, 600)

    def hold(self, rows, step, way):
        far = far_age(rows) + 3 * math.lcm(rows[-1][1] or 1, step)
        answer = walked.harmless(rows, step, way, far)
        self.assertEqual(harmless(built(rows), step, way), answer, (rows, step, way))
        return answer

    def test_walked_one_row(self):
        answers = [self.hold(rows, step, way) for rows in one_row_wordings(12) for step in range(1, 8) for way in WAYS]
        self.assertGreater(answers.count(None), 100)

    def test_walked_up_to_six_rows(self):
        chance = random.Random(28)
        answers = []
        for rows in steady_wordings(29, 500):
            for way in WAYS:
                answers.append(self.hold(rows, chance.randint(2, 9), way))
        self.assertGreater(len(set(answers)), 15)

    def test_walked_wordings_of_multiples(self):
        chance = random.Random(30)
        answers = []
        for rows in steady_wordings(31, 300):
            step = chance.randint(2, 3)
            for row_way in WAYS:
                more = {"down": 0, "up": 1, "near": step - step // 2}[row_way]
                rows = [(row[0] and row[0] * step + more, row[1] and row[1] * step, row_way, row[3]) for row in rows]
                if Walked(rows, far_age(rows)).returns() is None:
                    answers += [self.hold(rows, step, way) for way in WAYS]
        self.assertGreater(answers.count(None), 30)

    def test_great_steps(self):
        for row_way in WAYS:
            for way in WAYS:
                wording, step = one_row(ONE, row_way), OTHER
                edge = first_edge(ONE, row_way)
                if (edge - first_edge(step, way)) % step == 0:
                    edge += ONE
                brought = step * rounded(edge, step, way)
                answer = edge
                if edge <= brought:
                    answer = max(0, brought - {"down": 0, "up": step - 1, "near": step // 2}[way])
                self.assertEqual(harmless(wording, step, way), answer, (row_way, way))
                brought = step * rounded(answer, step, way)
                self.assertNotEqual(wording.label(brought), wording.label(answer))

    def test_great_steps_that_do_no_harm(self):
        for way in WAYS:
            self.assertIsNone(harmless(one_row(7 * OTHER, way), 7 * OTHER, way))
            self.assertIsNone(harmless(one_row(7 * OTHER, way), OTHER, way))
        rows = [(1, None, "down", "now"), (GREAT, 1, "down", "s"), (None, ONE, "up", "m")]
        self.assertEqual(harmless(built(rows), 2, "up"), 1)
        self.assertEqual(harmless(built(rows), 2, "down"), 1)
        self.assertEqual(harmless(built([(GREAT + 1, None, "down", "now")] + rows[2:]), ONE, "up"), ONE + 1)
        self.assertIsNone(harmless(built([(ONE + 1, None, "down", "now")] + rows[2:]), ONE, "up"))

    def test_scaled(self):
        chance = random.Random(32)
        for rows in steady_wordings(33, 300):
            rows = down(rows)
            if Walked(rows, far_age(rows)).returns() is None:
                step = chance.randint(1, 6)
                answer = self.hold(rows, step, "down")
                told = harmless(built(scaled(rows)), step * FACTOR, "down")
                self.assertEqual(told, None if answer is None else answer * FACTOR)


if __name__ == "__main__":
    unittest.main()
