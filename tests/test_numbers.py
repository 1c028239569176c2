"""[1] Numbers, ages, stretches; [2] arguments, copies, equal answers."""

import unittest

from agewords.compare import alike, finer, harmless
from agewords.errors import BadAge, Unsteady
from agewords.wordings import Row, Wording

GREAT = 10 ** 30


def usual():
    return Wording([Row(60, None, "down", "now"), Row(3600, 60, "down", "m"), Row(None, 3600, "near", "h")])


class Numbers(unittest.TestCase):

    def test_counts_and_ages_are_plain_integers(self):
        wording = usual()
        answers = [wording.label(61)[1], wording.later_edge(0), wording.last_edge(61), wording.last_edge(0),
                   wording.edges(0, 59), wording.edges(0, 60), wording.ages(("m", 1))[0][0],
                   alike(wording, Wording([Row(None, 1, "up", "s")]))]
        for answer in answers:
            self.assertIs(type(answer), int)

    def test_the_age_0_is_an_age(self):
        wording = usual()
        self.assertEqual((wording.label(0), wording.text(0)), (("now", None), "now"))
        self.assertEqual((wording.later_edge(0), wording.last_edge(0), wording.edges(0, 0)), (60, 0, 0))

    def test_ages_below_0_are_none(self):
        wording = usual()
        calls = (wording.label, wording.text, wording.later_edge, wording.last_edge,
                 lambda age: wording.edges(age, 5), lambda age: wording.edges(0, age))
        for call in calls:
            for age in (-1, -60, -GREAT):
                with self.assertRaises(BadAge) as caught:
                    call(age)
                self.assertEqual(caught.exception.age, age)

    def test_stretches_are_pairs(self):
        wording = Wording([Row(5, None, "up", "now"), Row(None, None, "up", "old")])
        self.assertEqual(wording.ages(("now", None)), ((0, 4),))
        self.assertEqual(wording.ages(("old", None)), ((5, None),))
        for stretch in wording.ages(("old", None)):
            self.assertIs(type(stretch), tuple)

    def test_numbers_of_31_digits(self):
        wording = Wording([Row(GREAT, 1, "down", "s"), Row(None, GREAT, "down", "h")])
        self.assertEqual(wording.label(GREAT - 1), ("s", GREAT - 1))
        self.assertEqual(wording.label(9 * GREAT), ("h", 9))
        self.assertEqual(wording.edges(0, 9 * GREAT), GREAT - 1 + 9)


class Arguments(unittest.TestCase):

    def test_by_name(self):
        row = Row(word="now", way="up", unit=None, until=60)
        self.assertEqual(row, Row(60, None, "up", "now"))
        wording = Wording(rows=[row, Row(None, 60, "down", "m")])
        self.assertEqual(wording.label(age=60), ("m", 1))
        self.assertEqual(wording.text(age=60), "1 m")
        self.assertEqual(wording.later_edge(age=60), 120)
        self.assertEqual(wording.last_edge(age=119), 60)
        self.assertEqual(wording.edges(high=120, low=60), 1)
        self.assertEqual(wording.ages(label=("m", 1)), ((60, 119),))
        self.assertEqual(Wording.read(text="60 - up now\n- 60 down m"), wording)
        self.assertEqual(alike(other=wording, one=wording), None)
        self.assertEqual(finer(other=Wording([Row(None, 90, "up", "x")]), one=wording), 1)
        self.assertEqual(harmless(way="down", step=7, wording=wording), 60)

    def test_lists_or_tuples(self):
        rows = [Row(60, None, "down", "now"), Row(None, 60, "down", "m")]
        self.assertEqual(Wording(rows), Wording(tuple(rows)))
        self.assertIs(type(Wording(rows).rows), tuple)

    def test_objects_copy_what_they_are_given(self):
        rows = [Row(60, None, "down", "now"), Row(None, 60, "down", "m")]
        wording = Wording(rows)
        rows[0] = Row(7, 1, "up", "s")
        rows.pop()
        self.assertEqual(wording.rows, (Row(60, None, "down", "now"), Row(None, 60, "down", "m")))
        self.assertEqual(wording.text(61), "1 m")

    def test_arguments_do_not_change(self):
        rows = [Row(60, None, "down", "now"), Row(None, 60, "down", "m")]
        wording, other = Wording(rows), usual()
        alike(wording, other)
        finer(wording, other)
        harmless(wording, 5, "near")
        wording.returns()
        self.assertEqual(rows, [Row(60, None, "down", "now"), Row(None, 60, "down", "m")])
        self.assertEqual(wording, Wording(rows))
        self.assertEqual(other, usual())

    def test_the_same_is_told_twice(self):
        wording = Wording([Row(600, 60, "down", "m"), Row(1200, 90, "near", "m"), Row(None, None, "down", "old")])

        def told(asked):
            found = [asked.label(age) for age in (0, 59, 600, 10 ** 40)]
            found += [asked.later_edge(60), asked.last_edge(600), asked.edges(0, 900), asked.ages(("m", 8))]
            found += [asked.returns(), alike(asked, usual()), finer(usual(), asked), str(asked)]
            try:
                harmless(asked, 60, "down")
            except Unsteady as error:
                found.append(error.age)
            return found

        first = told(wording)
        self.assertEqual(told(wording), first)
        self.assertEqual(told(Wording(list(wording.rows))), first)

    def test_what_is_told_may_be_passed_on_however_great(self):
        wording = Wording([Row(60, None, "down", "now"), Row(None, GREAT, "near", "h")])
        count = 10 ** 31 - 1
        for _ in range(200):
            (low, high), = wording.ages(("h", count))
            self.assertEqual((wording.label(low), wording.label(high)), (("h", count), ("h", count)))
            self.assertEqual((low, high), (count * GREAT - GREAT // 2, count * GREAT + GREAT // 2 - 1))
            self.assertEqual((wording.last_edge(high), wording.later_edge(low)), (low, high + 1))
            self.assertEqual(wording.edges(low, high + 1), 1)
            self.assertEqual(harmless(Wording([Row(None, high, "down", "m")]), low, "down"), high)
            count = high
        self.assertGreater(count, 10 ** 5000)
        text = wording.text(count * GREAT)
        self.assertEqual((text[-2:], len(text)), (" h", len_in_digits(count) + 2))
        self.assertEqual([int(text[:30]), int(text[-32:-2])], [count // 10 ** (len(text) - 32), count % 10 ** 30])


def len_in_digits(number):
    digits = 0
    while number > 0:
        number //= 10
        digits += 1
    return digits


class Equality(unittest.TestCase):

    def test_rows(self):
        row = Row(60, 5, "down", "m")
        self.assertEqual(row, Row(60, 5, "down", "m"))
        for other in (Row(61, 5, "down", "m"), Row(None, 5, "down", "m"), Row(60, 6, "down", "m"),
                      Row(60, None, "down", "m"), Row(60, 5, "up", "m"), Row(60, 5, "down", "h")):
            self.assertNotEqual(row, other)
            self.assertNotEqual(other, row)
            self.assertFalse(row == other)

    def test_the_way_of_a_row_without_a_unit_is_kept(self):
        self.assertNotEqual(Row(60, None, "down", "m"), Row(60, None, "up", "m"))
        self.assertEqual(Row(60, None, "near", "m").way, "near")

    def test_wordings(self):
        self.assertEqual(usual(), usual())
        self.assertNotEqual(usual(), Wording(usual().rows[:1] + usual().rows[2:]))
        same_labels = Wording([Row(60, None, "up", "now")] + list(usual().rows[1:]))
        self.assertNotEqual(usual(), same_labels)
        self.assertIsNone(alike(usual(), same_labels))

    def test_no_object_is_equal_to_a_thing_of_another_kind(self):
        row, wording = Row(None, 5, "down", "m"), Wording([Row(None, 5, "down", "m")])
        things = (None, 0, 5, "m", (None, 5, "down", "m"), [row], (row,), "- 5 down m", object())
        for thing in things:
            self.assertFalse(row == thing)
            self.assertFalse(thing == row)
            self.assertFalse(wording == thing)
            self.assertFalse(thing == wording)
        self.assertFalse(row == wording)
        self.assertFalse(wording == row)
        self.assertTrue(wording != row)


if __name__ == "__main__":
    unittest.main()
