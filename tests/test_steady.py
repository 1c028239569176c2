"""[12] Steady wordings, and where labels come back."""

import unittest

from agewords.compare import finer, harmless
from agewords.errors import Unsteady
from agewords.wordings import Row, Wording, demand_steady
from tests.walked import Walked, built, far_age, one_row_wordings, small_wordings, two_row_wordings

GREAT = 10 ** 30


class OrdinaryReturns(unittest.TestCase):

    def test_the_example_of_the_document(self):
        self.assertEqual(built([(600, 60, "down", "m"), (None, 120, "down", "m")]).returns(), 600)

    def test_steady(self):
        rows = [(60, None, "down", "now"), (3600, 60, "down", "m"), (None, 3600, "up", "h")]
        self.assertIsNone(built(rows).returns())
        self.assertIsNone(built([(None, None, "up", "now")]).returns())
        self.assertIsNone(built([(None, 7, "up", "m")]).returns())

    def test_a_row_that_goes_on_as_the_row_before(self):
        self.assertIsNone(built([(90, 60, "down", "m"), (None, 60, "down", "m")]).returns())
        self.assertIsNone(built([(9, None, "down", "m"), (12, None, "up", "m"), (None, 60, "up", "h")]).returns())
        self.assertIsNone(built([(3, 1, "down", "m"), (9, 1, "up", "m"), (None, 1, "near", "m")]).returns())

    def test_a_count_that_goes_on_over_an_until(self):
        # "2 m" is shown from 4 to 5 by the first row and from 6 to 8 by the second one; "3 m" is new.
        self.assertIsNone(built([(6, 2, "down", "m"), (None, 3, "down", "m")]).returns())

    def test_behind_a_count_that_goes_on_the_next_one_comes_back(self):
        # "9 m" goes on over 38, and "10 m" was shown at 10.
        rows = [(10, None, "up", "now"), (20, 1, "down", "m"), (38, 4, "down", "m"), (None, 4, "down", "m")]
        self.assertEqual(built(rows).returns(), 40)

    def test_a_word_with_and_without_a_count(self):
        self.assertIsNone(built([(60, None, "down", "m"), (None, 60, "down", "m")]).returns())
        self.assertEqual(built([(5, None, "down", "m"), (9, 60, "down", "m"), (None, None, "up", "m")]).returns(), 9)

    def test_far_along_the_last_row(self):
        rows = [(1000, None, "down", "now"), (2000, 1, "down", "m"), (None, 10 ** 9, "down", "m")]
        self.assertEqual(built(rows).returns(), 10 ** 12)
        rows[2] = (None, 10 ** 9, "up", "m")
        self.assertEqual(built(rows).returns(), 999 * 10 ** 9 + 1)
        rows[2] = (None, 10 ** 9, "near", "m")
        self.assertEqual(built(rows).returns(), 10 ** 12 - 5 * 10 ** 8)

    def test_the_first_row_in_which_one_comes_back(self):
        rows = [(10, 1, "down", "b"), (30, 10, "down", "a"), (50, 5, "down", "b"), (None, 10, "down", "a")]
        self.assertEqual(built(rows).returns(), 30)
        rows = [(10, 1, "down", "a"), (30, 10, "down", "b"), (None, 5, "down", "a")]
        self.assertEqual(built(rows).returns(), 30)

    def test_the_earlier_row_that_comes_back_first(self):
        rows = [(30, None, "down", "q"), (35, 1, "down", "a"), (40, None, "down", "r"), (45, 1, "down", "a"),
                (None, 100, "down", "a")]
        self.assertEqual(built(rows).returns(), 3000)
        rows[3] = (45, 2, "down", "a")
        self.assertEqual(built(rows).returns(), 2000)


class WalkedReturns(unittest.TestCase):

    def hold(self, all_rows):
        steady = 0
        for rows in all_rows:
            answer = Walked(rows, far_age(rows)).returns()
            wording = built(rows)
            self.assertEqual(wording.returns(), answer, rows)
            if answer is None:
                steady += 1
                demand_steady(wording)
                continue
            for call in (demand_steady, lambda asked: finer(asked, asked), lambda asked: harmless(asked, 3, "up")):
                with self.assertRaises(Unsteady) as caught:
                    call(wording)
                self.assertEqual(caught.exception.age, answer)
        return steady

    def test_one_row_is_always_steady(self):
        all_rows = one_row_wordings(9)
        self.assertEqual(self.hold(all_rows), len(all_rows))

    def test_two_rows(self):
        self.assertGreater(self.hold(two_row_wordings(7, 4)), 100)

    def test_up_to_six_rows(self):
        all_rows = small_wordings(12, 1500) + small_wordings(13, 500, words="m") + small_wordings(14, 500, words="mhdw")
        steady = self.hold(all_rows)
        self.assertGreater(steady, 300)
        self.assertLess(steady, len(all_rows) - 300)


class GreatReturns(unittest.TestCase):

    def test_scaled_wordings(self):
        # With the way down a wording whose untils and units are all multiplied shows the same at multiplied ages.
        factor = 10 ** 28 + 7
        for rows in small_wordings(15, 300):
            down = [(until, unit, "down", word) for until, unit, _, word in rows]
            great = [(until and until * factor, unit and unit * factor, way, word) for until, unit, way, word in down]
            answer = Walked(down, far_age(down)).returns()
            self.assertEqual(built(great).returns(), None if answer is None else answer * factor, rows)

    def test_units_without_a_common_divisor(self):
        one, other = 10 ** 30 - 1, 10 ** 30 - 11
        rows = [(10 * GREAT, one, "down", "m"), (None, other, "down", "m")]
        self.assertEqual(built(rows).label(10 * GREAT), ("m", 10))
        # "10 m" of the first row goes on, and the next count is new.
        self.assertEqual(built(rows).label(10 * GREAT - 1), ("m", 10))
        self.assertIsNone(built(rows).returns())
        rows = [(3 * GREAT, other, "down", "m"), (None, one, "up", "q")]
        self.assertIsNone(built(rows).returns())
        rows = [(3 * GREAT, 1, "down", "m"), (None, one, "up", "m")]
        self.assertEqual(built(rows).label(3 * GREAT), ("m", 4))
        self.assertEqual(built(rows).returns(), 3 * GREAT)

    def test_a_label_that_comes_back_beyond_31_digits(self):
        rows = [(GREAT, None, "down", "now"), (2 * GREAT, 1, "down", "m"), (None, GREAT, "near", "m")]
        edge = GREAT * GREAT - GREAT // 2
        self.assertEqual(built(rows).returns(), edge)
        self.assertEqual(built(rows).ages(("m", GREAT)), ((GREAT, GREAT), (edge, edge + GREAT - 1)))

    def test_a_row_from_1_to_the_greatest_number_with_the_unit_1(self):
        rows = [(1, None, "down", "now"), (GREAT, 1, "down", "m"), (None, 2, "down", "m")]
        self.assertEqual(built(rows).returns(), GREAT)
        rows[2] = (None, 1, "near", "m")
        self.assertIsNone(built(rows).returns())


if __name__ == "__main__":
    unittest.main()
