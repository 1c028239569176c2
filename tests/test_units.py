"""[70] units, [71] parting."""

import random
import unittest

from agewords.errors import Clash
from agewords.units import parting, units
from tests import phased
from tests.walked import WAYS, rounded

GREAT = 10 ** 30
ONE, OTHER = 10 ** 30 - 1, 10 ** 30 - 11
MOST = 10 ** 31 - 1


class Units(unittest.TestCase):

    def test_ordinary(self):
        self.assertEqual(units("down", 100, [(120, 2)]), (41, 60))
        self.assertEqual(units("up", 100, [(120, 2)]), (60, 100))
        self.assertEqual(units("up", 200, [(120, 2)]), (60, 119))
        self.assertEqual(units("near", 100, [(120, 2)]), (49, 80))
        self.assertEqual(units("down", 100, [(120, 2), (59, 0), (179, 2)]), (60, 60))
        self.assertEqual(units("near", 100, [(30, 1), (29, 0)]), (59, 60))

    def test_no_examples(self):
        for way in WAYS:
            for most in (1, 7, GREAT):
                self.assertEqual(units(way, most, []), (1, most))
                self.assertEqual(units(way, most, ()), (1, most))

    def test_the_age_0(self):
        for way in WAYS:
            self.assertEqual(units(way, 9, [(0, 0)]), (1, 9))
            for count in (1, -1, 2, GREAT):
                self.assertEqual(self.raised(way, 9, [(0, count)]), (0, 0))

    def test_the_count_0(self):
        self.assertEqual(units("down", 9, [(5, 0)]), (6, 9))
        self.assertEqual(units("near", 19, [(5, 0)]), (11, 19))
        self.assertEqual(self.raised("up", 9, [(5, 0)]), (0, 0))
        self.assertEqual(self.raised("down", 5, [(5, 0)]), (0, 0))
        self.assertEqual(self.raised("near", 10, [(5, 0)]), (0, 0))

    def test_the_count_1(self):
        self.assertEqual(units("down", 9, [(5, 1)]), (3, 5))
        self.assertEqual(units("up", 9, [(5, 1)]), (5, 9))
        self.assertEqual(units("near", 19, [(5, 1)]), (4, 10))

    def test_the_unit_1(self):
        for way in WAYS:
            self.assertEqual(units(way, 9, [(5, 5)]), (1, 1))
            self.assertEqual(units(way, 1, [(5, 5), (0, 0), (17, 17)]), (1, 1))
            self.assertEqual(self.raised(way, 9, [(5, 6)]), (0, 0))

    def test_most_is_a_unit_too(self):
        self.assertEqual(units("down", 60, [(120, 2)]), (41, 60))
        self.assertEqual(units("down", 59, [(120, 2)]), (41, 59))
        self.assertEqual(units("down", 41, [(120, 2)]), (41, 41))
        self.assertEqual(self.raised("down", 40, [(120, 2)]), (0, 0))

    def raised(self, way, most, examples):
        with self.assertRaises(Clash) as caught:
            units(way, most, examples)
        return (caught.exception.first, caught.exception.second)

    def test_clash(self):
        self.assertEqual(self.raised("down", 100, [(120, 2), (59, 0), (60, 0)]), (0, 2))
        self.assertEqual(self.raised("down", 100, [(60, 0), (59, 0), (120, 2)]), (0, 2))
        self.assertEqual(self.raised("down", 100, [(5, 1), (5, 2)]), (0, 1))
        for count in (-1, 6, -GREAT, GREAT):
            self.assertEqual(self.raised("down", 100, [(5, count)]), (0, 0))
            first, second = self.raised("down", 100, [(5, 1), (5, count), (5, 2)])
            self.assertLessEqual(first, second)
            self.assertEqual(phased.units_showing("down", 100, [(5, (1, count, 2)[first]), (5, (1, count, 2)[second])]), [])

    def test_equal_calls_raise_equal_errors(self):
        examples = [(120, 2), (59, 0), (60, 0), (7, 100), (130, 1)]
        self.assertEqual(self.raised("down", 100, examples), self.raised("down", 100, tuple(examples)))

    def hold(self, way, most, examples):
        found = phased.units_showing(way, most, examples)
        if found:
            self.assertEqual(found, list(range(found[0], found[-1] + 1)))
            self.assertEqual(units(way, most, examples), (found[0], found[-1]), (way, most, examples))
            return "some"
        first, second = self.raised(way, most, examples)
        self.assertLessEqual(first, second)
        self.assertEqual(phased.units_showing(way, most, [examples[first], examples[second]]), [], (way, most, examples))
        return "one" if first == second else "two"

    def test_each_unit_for_one_example(self):
        for way in WAYS:
            for most in (1, 2, 9, 30):
                for age in range(25):
                    for count in range(-2, age + 3):
                        self.hold(way, most, [(age, count)])

    def test_each_unit_for_several_examples(self):
        chance = random.Random(700)
        told = {}
        for _ in range(4000):
            way, most = chance.choice(WAYS), chance.randint(1, 60)
            unit = chance.randint(1, most)
            examples = []
            for _ in range(chance.randint(1, 5)):
                age = chance.randint(0, 200)
                examples.append((age, rounded(age, unit, way) + (chance.random() < 0.1) - (chance.random() < 0.1)))
            answer = self.hold(way, most, examples)
            told[answer] = told.get(answer, 0) + 1
        self.assertGreater(min(told[answer] for answer in ("some", "one", "two")), 100, told)

    def test_great(self):
        self.assertEqual(units("down", MOST, [(GREAT, 1)]), (GREAT // 2 + 1, GREAT))
        self.assertEqual(units("up", MOST, [(GREAT, 1)]), (GREAT, MOST))
        self.assertEqual(units("up", MOST, [(GREAT, 2)]), (GREAT // 2, GREAT - 1))
        self.assertEqual(units("near", MOST, [(GREAT, 0)]), (2 * GREAT + 1, MOST))
        self.assertEqual(units("near", MOST, [(GREAT, 1)]), (2 * GREAT // 3 + 1, 2 * GREAT))
        for way in WAYS:
            self.assertEqual(units(way, MOST, [(GREAT, GREAT)]), (1, 1))
            self.assertEqual(self.raised(way, MOST, [(GREAT, 1), (GREAT, ONE)]), (1, 1))
            self.assertEqual(self.raised(way, MOST, [(GREAT, 1), (GREAT, 3)]), (0, 1))
            self.assertEqual(self.raised(way, MOST, [(GREAT, GREAT * GREAT)]), (0, 0))

    def test_great_numbers_at_their_ends(self):
        chance = random.Random(701)
        for _ in range(1500):
            way, unit = chance.choice(WAYS), chance.randint(1, 10 ** chance.choice((1, 15, 30, 31)) - 1)
            most = chance.choice((unit, MOST, chance.randint(unit, MOST)))
            ages = [chance.choice((chance.randint(0, MOST), unit * chance.randint(0, 9) + chance.randint(0, 2)))
                    for _ in range(chance.randint(1, 4))]
            examples = [(age, rounded(age, unit, way)) for age in ages]
            low, high = units(way, most, examples)
            self.assertTrue(1 <= low <= unit <= high <= most)
            for end, is_one in ((low, True), (high, True), (low - 1, False), (high + 1, False)):
                if 1 <= end <= most:
                    self.assertIs(all(rounded(age, end, way) == count for age, count in examples), is_one)

    def test_what_is_told_may_be_passed_on_however_great(self):
        most = GREAT
        for _ in range(100):
            low, high = units("near", most, [(most, 3)])
            self.assertEqual((low, high), (2 * most // 7 + 1, 2 * most // 5))
            most = high * GREAT
        self.assertGreater(most, 10 ** 2500)

    def test_many_examples(self):
        # The last whole day ends at 86400 * 1157; 3600 ahead of that a unit of 86396 would have counted it already.
        examples = [(age, age // 86400) for age in range(0, 86400 * 1157 + 1, 3600)]
        self.assertEqual(units("down", GREAT, examples), (86397, 86400))


class Parting(unittest.TestCase):

    def test_ordinary(self):
        self.assertEqual(parting("down", 60, 61), 60)
        self.assertEqual(parting("up", 60, 61), 61)
        self.assertEqual(parting("near", 60, 62), 30)
        self.assertEqual(parting("near", 60, 61), 30)

    def test_near_units_may_share_their_first_edge(self):
        self.assertEqual(parting("near", 59, 60), 89)
        self.assertEqual(parting("near", 1, 2), 2)

    def test_equal_units(self):
        for way in WAYS:
            for unit in (1, 2, 60, GREAT):
                self.assertIsNone(parting(way, unit, unit))

    def test_ages_one_by_one(self):
        for way in WAYS:
            for one in range(1, 41):
                for other in range(1, 41):
                    self.assertEqual(parting(way, one, other), phased.parting(way, one, other, 130), (way, one, other))

    def test_great(self):
        for one, other in ((ONE, OTHER), (OTHER, ONE), (GREAT, ONE), (1, GREAT), (MOST, GREAT)):
            self.assertEqual(parting("down", one, other), min(one, other))
            self.assertEqual(parting("up", one, other), min(one, other) + 1)
            self.assertEqual(parting("near", one, other), {ONE: ONE + GREAT // 2, OTHER: OTHER // 2 + 1, 1: 1,
                                                           GREAT: GREAT // 2}[min(one, other)])

    def test_great_numbers_one_age_earlier(self):
        chance = random.Random(710)
        for _ in range(500):
            way, one = chance.choice(WAYS), chance.randint(1, MOST - 3)
            other = chance.choice((one + 1, one + 2, chance.randint(one + 1, MOST)))
            age = parting(way, one, other)
            self.assertEqual(parting(way, other, one), age)
            self.assertNotEqual(rounded(age, one, way), rounded(age, other, way))
            for earlier in [age - 1, one - 1, one // 2, one // 2 - 1, 1, 0] + [chance.randrange(age) for _ in range(5)]:
                if 0 <= earlier < age:
                    self.assertEqual(rounded(earlier, one, way), rounded(earlier, other, way))


class Arguments(unittest.TestCase):

    def test_by_name(self):
        self.assertEqual(units(examples=[(120, 2)], most=100, way="down"), (41, 60))
        self.assertEqual(parting(other=60, one=59, way="near"), 89)

    def test_kinds_of_what_is_told(self):
        told = units("down", 100, [(120, 2)])
        self.assertEqual([type(told), type(told[0]), type(told[1])], [tuple, int, int])
        self.assertIs(type(parting("up", 2, 3)), int)

    def test_lists_or_tuples_and_nothing_changes(self):
        examples = [(120, 2), (59, 0), (179, 2)]
        for _ in range(2):
            self.assertEqual(units("down", 100, examples), units("down", 100, tuple(examples)))
        self.assertEqual(examples, [(120, 2), (59, 0), (179, 2)])


if __name__ == "__main__":
    unittest.main()
