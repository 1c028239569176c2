"""[10] Rows, counts, labels, texts; and the checks of the interface."""

import unittest

from agewords.errors import BadAge, BadRow
from agewords.wordings import Row, Wording
from tests.walked import built, label_of, one_row_wordings, small_wordings, two_row_wordings


def one_row(unit, way):
    return Wording([Row(None, unit, way, "m")])


class Counts(unittest.TestCase):

    def test_down(self):
        wording = one_row(60, "down")
        self.assertEqual([wording.label(age)[1] for age in (0, 1, 59, 60, 61, 119, 120)], [0, 0, 0, 1, 1, 1, 2])

    def test_up(self):
        wording = one_row(60, "up")
        self.assertEqual([wording.label(age)[1] for age in (0, 1, 59, 60, 61, 119, 120)], [0, 1, 1, 1, 2, 2, 2])

    def test_near_with_an_even_unit_takes_halves_up(self):
        wording = one_row(60, "near")
        self.assertEqual([wording.label(age)[1] for age in (0, 29, 30, 89, 90, 91)], [0, 0, 1, 1, 2, 2])

    def test_near_with_an_odd_unit(self):
        wording = one_row(5, "near")
        self.assertEqual([wording.label(age)[1] for age in range(13)], [0, 0, 0, 1, 1, 1, 1, 1, 2, 2, 2, 2, 2])

    def test_unit_1(self):
        for way in ("down", "up", "near"):
            self.assertEqual([one_row(1, way).label(age) for age in (0, 1, 2)], [("m", 0), ("m", 1), ("m", 2)])

    def test_without_a_unit(self):
        for way in ("down", "up", "near"):
            self.assertEqual([one_row(None, way).label(age) for age in (0, 7)], [("m", None), ("m", None)])

    def test_the_age_is_divided_not_what_it_is_more_than_the_row_before(self):
        wording = Wording([Row(100, None, "down", "now"), Row(None, 60, "down", "m")])
        self.assertEqual([wording.label(age) for age in (99, 100, 119, 120)],
                         [("now", None), ("m", 1), ("m", 1), ("m", 2)])


class RowsOfAges(unittest.TestCase):

    def test_a_row_ends_before_its_until(self):
        wording = built([(1, None, "down", "a"), (2, None, "down", "b"), (5, None, "down", "c"),
                         (6, None, "down", "d"), (9, None, "down", "e"), (None, None, "down", "f")])
        self.assertEqual("".join([wording.label(age)[0] for age in range(12)]), "abcccdeeefff")

    def test_against_the_words_of_the_document(self):
        for rows in one_row_wordings(7) + two_row_wordings(4, 3) + small_wordings(10, 400):
            wording = built(rows)
            for age in range(80):
                self.assertEqual(wording.label(age), label_of(rows, age), (rows, age))

    def test_great_numbers(self):
        unit, great = 3 * 10 ** 29 + 7, 10 ** 30
        for way, counts in (("down", [0, 1, 3, 4]), ("up", [1, 1, 4, 4]), ("near", [0, 1, 3, 4])):
            rows = [(great, unit, way, "m"), (None, unit, way, "h")]
            ages = (unit // 2, unit, great, 4 * unit)
            self.assertEqual([built(rows).label(age) for age in ages],
                             [("m", counts[0]), ("m", counts[1]), ("h", counts[2]), ("h", counts[3])])
        self.assertEqual(one_row(unit, "near").label(unit // 2 + 1), ("m", 1))


class Texts(unittest.TestCase):

    def test_word_alone_or_count_and_word(self):
        wording = Wording([Row(60, None, "down", "now"), Row(None, 60, "near", "m")])
        self.assertEqual([wording.text(age) for age in (0, 59, 60, 90, 6000)], ["now", "now", "1 m", "2 m", "100 m"])

    def test_a_count_of_0_is_shown(self):
        self.assertEqual(one_row(60, "down").text(0), "0 m")

    def test_digits_of_great_counts(self):
        wording = one_row(1, "down")
        ages = [10 ** power + more for power in (30, 63, 64, 65, 127, 128, 129, 192, 300) for more in (-1, 0, 1)]
        for age in ages:
            self.assertEqual(wording.text(age), f"{age} m")

    def test_bad_ages(self):
        for call in (one_row(60, "down").label, one_row(None, "down").text):
            with self.assertRaises(BadAge) as caught:
                call(-1)
            self.assertEqual(caught.exception.age, -1)


class WrongRows(unittest.TestCase):

    def wrong_index(self, *untils):
        with self.assertRaises(BadRow) as caught:
            Wording([Row(until, 1, "down", "m") for until in untils])
        return caught.exception.index

    def test_none_before_the_last_row(self):
        self.assertEqual(self.wrong_index(None, None), 0)
        self.assertEqual(self.wrong_index(5, None, None), 1)
        self.assertEqual(self.wrong_index(5, None, 3, None), 1)

    def test_an_integer_in_the_last_row(self):
        self.assertEqual(self.wrong_index(5), 0)
        self.assertEqual(self.wrong_index(0), 0)
        self.assertEqual(self.wrong_index(5, 6), 1)
        self.assertEqual(self.wrong_index(1, 2, 3, 4, 5, 10 ** 30), 5)

    def test_not_greater_than_the_one_before(self):
        self.assertEqual(self.wrong_index(5, 5, None), 1)
        self.assertEqual(self.wrong_index(5, 6, 4, None), 2)
        self.assertEqual(self.wrong_index(5, 4, None, 3), 1)
        self.assertEqual(self.wrong_index(10 ** 30, 10 ** 30, None), 1)

    def test_less_than_1_in_the_first_row(self):
        self.assertEqual(self.wrong_index(0, None), 0)
        self.assertEqual(self.wrong_index(-7, 5, None), 0)

    def test_right_rows(self):
        for untils in ((None,), (1, None), (1, 2, 3, 4, 5, None), (10 ** 30, 10 ** 30 + 1, None)):
            rows = [Row(until, 1, "down", "m") for until in untils]
            self.assertEqual(Wording(rows).rows, tuple(rows))

    def test_attributes_of_rows(self):
        row = Row(60, 5, "near", "m")
        self.assertEqual((row.until, row.unit, row.way, row.word), (60, 5, "near", "m"))


if __name__ == "__main__":
    unittest.main()
