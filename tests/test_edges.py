"""[11] Edges, and the ages with a label."""

import unittest

from agewords.errors import BadAge
from agewords.wordings import Row, Wording
from tests.walked import (Walked, built, far_age, label_of, one_row_wordings, rounded, small_wordings,
                          two_row_wordings)

GREAT = 10 ** 30
UNIT = 7 * 10 ** 29 + 3
OTHER = 9 * 10 ** 29 + 1


class OrdinaryEdges(unittest.TestCase):

    def test_edges_within_a_row(self):
        for way, edges in (("down", [60, 120, 180]), ("up", [1, 61, 121]), ("near", [30, 90, 150])):
            wording = Wording([Row(None, 60, way, "m")])
            found = [wording.later_edge(0)]
            found += [wording.later_edge(found[0]), wording.later_edge(edges[1])]
            self.assertEqual(found, edges)

    def test_near_takes_the_half_of_an_odd_unit_rounded_down(self):
        wording = Wording([Row(None, 5, "near", "m")])
        self.assertEqual([wording.later_edge(age) for age in (0, 3, 7, 8)], [3, 8, 8, 13])

    def test_later_edge_is_greater_and_last_edge_may_be_the_age(self):
        wording = Wording([Row(60, None, "down", "now"), Row(None, 60, "down", "m")])
        self.assertEqual([wording.later_edge(age) for age in (0, 59, 60, 119, 120)], [60, 60, 120, 120, 180])
        self.assertEqual([wording.last_edge(age) for age in (0, 59, 60, 119, 120)], [0, 0, 60, 60, 120])

    def test_no_edge(self):
        wording = Wording([Row(60, None, "down", "now"), Row(None, None, "up", "now")])
        self.assertEqual((wording.later_edge(0), wording.last_edge(10 ** 40)), (None, 0))
        self.assertEqual(wording.edges(0, 10 ** 40), 0)
        self.assertEqual(wording.ages(("now", None)), ((0, None),))

    def test_an_until_that_is_no_edge(self):
        wording = Wording([Row(90, 60, "down", "m"), Row(None, 60, "down", "m")])
        self.assertEqual((wording.later_edge(60), wording.last_edge(119)), (120, 60))
        self.assertEqual(wording.ages(("m", 1)), ((60, 119),))
        self.assertEqual(wording.edges(60, 120), 1)

    def test_an_until_between_two_edges_of_its_rows(self):
        wording = Wording([Row(90, 60, "down", "m"), Row(None, 60, "up", "m")])
        self.assertEqual([wording.later_edge(age) for age in (0, 60, 90, 121)], [60, 90, 121, 181])
        self.assertEqual(wording.edges(0, 121), 3)

    def test_edges_counts_what_is_greater_than_low_and_at_most_high(self):
        wording = Wording([Row(None, 10, "down", "m")])
        self.assertEqual([wording.edges(10, 20), wording.edges(9, 20), wording.edges(10, 19), wording.edges(10, 10)],
                         [1, 2, 0, 0])

    def test_bad_ages(self):
        wording = Wording([Row(None, 10, "down", "m")])
        for call, age in ((lambda: wording.later_edge(-1), -1), (lambda: wording.last_edge(-GREAT), -GREAT),
                          (lambda: wording.edges(-2, -1), -2), (lambda: wording.edges(3, -1), -1)):
            with self.assertRaises(BadAge) as caught:
                call()
            self.assertEqual(caught.exception.age, age)


class OrdinaryAges(unittest.TestCase):

    def test_a_label_that_comes_back(self):
        wording = Wording([Row(600, 60, "down", "m"), Row(None, 120, "down", "m")])
        self.assertEqual(wording.ages(("m", 5)), ((300, 359), (600, 719)))
        self.assertEqual(wording.ages(("m", 9)), ((540, 599), (1080, 1199)))
        self.assertEqual(wording.ages(("m", 10)), ((1200, 1319),))

    def test_stretches_that_touch_are_one(self):
        wording = Wording([Row(5, None, "down", "a"), Row(9, None, "up", "a"), Row(12, 3, "up", "a"),
                           Row(14, None, "down", "a"), Row(20, None, "near", "a"), Row(None, 4, "down", "a")])
        self.assertEqual(wording.ages(("a", None)), ((0, 8), (12, 19)))
        self.assertEqual(wording.ages(("a", 3)), ((9, 9),))
        self.assertEqual(wording.ages(("a", 4)), ((10, 11),))

    def test_labels_that_are_never_shown(self):
        wording = Wording([Row(60, None, "down", "now"), Row(3600, 60, "down", "m"), Row(None, 3600, "up", "h")])
        for label in (("now", 0), ("now", 1), ("m", None), ("m", 0), ("m", 60), ("m", -1), ("h", 0), ("h", -10 ** 30),
                      ("h", None), ("d", 1), ("", None), ("Now", None), ("now ", None), ("two words", 3)):
            self.assertEqual(wording.ages(label), (), label)

    def test_counts_of_0_and_below(self):
        for way, stretch in (("down", (0, 59)), ("up", (0, 0)), ("near", (0, 29))):
            wording = Wording([Row(None, 60, way, "m")])
            self.assertEqual(wording.ages(("m", 0)), (stretch,))
            self.assertEqual(wording.ages(("m", -1)), ())
            self.assertEqual(wording.ages(("m", -GREAT)), ())


class WalkedEdges(unittest.TestCase):

    def hold(self, rows):
        wording = built(rows)
        far = far_age(rows)
        walked = Walked(rows, far)
        last = max([row[0] or 0 for row in rows]) + 2 * max([row[1] or 0 for row in rows]) + 2
        for age in range(last):
            self.assertEqual(wording.later_edge(age), walked.later_edge(age), (rows, age))
            self.assertEqual(wording.last_edge(age), walked.last_edge(age), (rows, age))
            for low in range(0, age + 1, 1 if last < 25 else 5):
                self.assertEqual(wording.edges(low, age), walked.edges(low, age), (rows, low, age))

    def hold_ages(self, rows):
        wording = built(rows)
        walked = Walked(rows, far_age(rows))
        # The last labels of a walk are cut off by its end if they have a count: leave them out.
        shown = set(walked.labels) - ({walked.labels[-1]} if rows[-1][1] is not None else set())
        never = {(word, count) for word in ("m", "h", "now", "q") for count in (None, -2, -1, 0, 1, 2)}
        for label in shown | (never - set(walked.labels)):
            self.assertEqual(wording.ages(label), walked.ages(label), (rows, label))

    def test_all_wordings_of_one_row(self):
        for rows in one_row_wordings(8):
            self.hold(rows)
            self.hold_ages(rows)

    def test_wordings_of_two_rows(self):
        for rows in two_row_wordings(6, 3):
            self.hold(rows)
            self.hold_ages(rows)

    def test_wordings_of_up_to_six_rows(self):
        for rows in small_wordings(11, 500):
            self.hold(rows)
            self.hold_ages(rows)


class GreatEdges(unittest.TestCase):
    """Where ages cannot be walked, answers are held against labels around them, or found by halving."""

    def wordings(self):
        told = [[(None, UNIT, way, "m")] for way in ("down", "up", "near")]
        told += [[(1, None, "down", "now"), (GREAT, 1, way, "s"), (None, GREAT, other, "h")]
                 for way in ("down", "up", "near") for other in ("down", "up", "near")]
        told += [[(5, None, way, "m"), (UNIT, UNIT // 5, way, "m"), (GREAT, OTHER, way, "m"),
                  (2 * GREAT, OTHER, other, "m"), (None, UNIT, other, "m")]
                 for way in ("down", "up", "near") for other in ("down", "up", "near")]
        told += [[(GREAT - 1, UNIT, "near", "m"), (GREAT, UNIT, "near", "m"), (None, None, "down", "old")],
                 [(GREAT, None, "up", "a"), (GREAT + 1, None, "down", "a"), (None, 1, "near", "a")]]
        return told

    def ages_of(self, rows):
        marks = [row[0] for row in rows if row[0]] + [UNIT, OTHER, GREAT, 10 ** 31 - 1, 3 * UNIT, 2 * OTHER]
        marks += [mark // 2 for mark in marks] + [10 ** 45]
        return sorted({max(0, mark + more) for mark in marks for more in (-2, -1, 0, 1, 2)} | {0})

    def is_constant(self, rows, low, high):
        """Within a row counts never fall, so only the ends of rows and stretch need a look."""
        ages = [low, high]
        for until in [row[0] for row in rows if row[0] is not None]:
            ages += [age for age in (until - 1, until) if low < age < high]
        return len({label_of(rows, age) for age in ages}) == 1

    def is_edge(self, rows, age):
        return age > 0 and label_of(rows, age) != label_of(rows, age - 1)

    def test_later_edge(self):
        for rows in self.wordings():
            wording = built(rows)
            for age in self.ages_of(rows):
                edge = wording.later_edge(age)
                if edge is None:
                    self.assertIsNone(rows[-1][1])
                    self.assertTrue(self.is_constant(rows, age, 10 ** 50))
                else:
                    self.assertGreater(edge, age)
                    self.assertTrue(self.is_edge(rows, edge), (rows, age))
                    self.assertTrue(self.is_constant(rows, age, edge - 1), (rows, age))

    def test_last_edge(self):
        for rows in self.wordings():
            wording = built(rows)
            for age in self.ages_of(rows):
                edge = wording.last_edge(age)
                self.assertTrue(0 <= edge <= age)
                self.assertTrue(edge == 0 or self.is_edge(rows, edge), (rows, age))
                self.assertTrue(self.is_constant(rows, edge, age), (rows, age))

    def number_of_edges(self, rows, low, high):
        number = 0
        first = 0
        for until, unit, way, _ in rows:
            if low < first <= high and self.is_edge(rows, first):
                number += 1
            start, end = max(first, low), high if until is None else min(high, until - 1)
            if unit is not None and start < end:
                number += rounded(end, unit, way) - rounded(start, unit, way)
            first = until
        return number

    def test_edges(self):
        for rows in self.wordings():
            wording = built(rows)
            ages = self.ages_of(rows)
            for low in ages:
                for high in [age for age in ages if age >= low]:
                    self.assertEqual(wording.edges(low, high), self.number_of_edges(rows, low, high))
            self.assertEqual(wording.edges(GREAT, wording.later_edge(GREAT) or GREAT),
                             0 if wording.later_edge(GREAT) is None else 1)

    def least_age(self, unit, way, count):
        """The least age with at least the count, by halving."""
        low, high = 0, 10 ** 70
        while low < high:
            middle = (low + high) // 2
            if rounded(middle, unit, way) >= count:
                high = middle
            else:
                low = middle + 1
        return low

    def stretches(self, rows, label):
        found = []
        first = 0
        for until, unit, way, word in rows:
            if word == label[0] and (unit is None) == (label[1] is None):
                low, high = first, None if until is None else until - 1
                if unit is not None:
                    low = max(low, self.least_age(unit, way, label[1]))
                    end = self.least_age(unit, way, label[1] + 1) - 1
                    high = end if high is None else min(high, end)
                if high is None or low <= high:
                    found.append((low, high))
            first = until
        whole = []
        for low, high in found:
            if whole and whole[-1][1] == low - 1:
                low = whole.pop()[0]
            whole.append((low, high))
        return tuple(whole)

    def test_ages(self):
        for rows in self.wordings():
            wording = built(rows)
            labels = {label_of(rows, age) for age in self.ages_of(rows)}
            labels |= {(row[3], count) for row in rows for count in (None, -GREAT, -1, 0, 1, 2, 5, GREAT, 10 ** 31 - 1)}
            for label in labels:
                self.assertEqual(wording.ages(label), self.stretches(rows, label), (rows, label))

    def test_a_row_from_1_to_the_greatest_number_with_the_unit_1(self):
        wording = Wording([Row(1, None, "down", "now"), Row(GREAT, 1, "up", "s"), Row(None, None, "down", "old")])
        self.assertEqual(wording.edges(0, 10 ** 31), GREAT)
        self.assertEqual(wording.edges(5, GREAT - 1), GREAT - 6)
        self.assertEqual((wording.later_edge(GREAT - 1), wording.later_edge(GREAT)), (GREAT, None))
        self.assertEqual((wording.last_edge(GREAT - 1), wording.last_edge(10 ** 31)), (GREAT - 1, GREAT))
        self.assertEqual(wording.ages(("s", GREAT - 1)), ((GREAT - 1, GREAT - 1),))
        self.assertEqual(wording.ages(("s", GREAT)), ())
        self.assertEqual(wording.ages(("old", None)), ((GREAT, None),))


if __name__ == "__main__":
    unittest.main()
