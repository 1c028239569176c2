"""[3] Errors and their fields."""

import unittest

from agewords import errors
from agewords.compare import finer, harmless
from agewords.errors import (AgeError, BadAge, BadRow, BadText, Busy, Clash, NotKept, NothingLeft, Unsteady)
from agewords.wordings import Row, Wording

FIELDS = (
    (BadRow, ("index",)), (BadText, ("line",)), (BadAge, ("age",)), (Unsteady, ("age",)),
    (Clash, ("first", "second")), (NotKept, ("guard",)), (NothingLeft, ()), (Busy, ()))


class ErrorClasses(unittest.TestCase):

    def test_age_error_is_a_value_error(self):
        self.assertTrue(issubclass(AgeError, ValueError))
        with self.assertRaises(ValueError):
            raise AgeError()

    def test_others_are_direct_subclasses(self):
        for error, _ in FIELDS:
            self.assertEqual(error.__bases__, (AgeError,), error)

    def test_there_are_no_other_classes(self):
        named = {name for name, value in vars(errors).items() if isinstance(value, type)}
        self.assertEqual(named, {"AgeError"} | {error.__name__ for error, _ in FIELDS})

    def test_fields_by_position_and_by_name(self):
        values = (7, ("before", "a", "b"))
        for error, fields in FIELDS:
            told = dict(zip(fields, values))
            for made in (error(*told.values()), error(**told)):
                self.assertEqual({name: getattr(made, name) for name in fields}, told)
                self.assertEqual(vars(made), told)

    def test_fields_take_any_values(self):
        for value in (None, "x", -1, 10 ** 5000, [1], object(), ("known", "a", 3)):
            for error, fields in FIELDS:
                made = error(*[value for _ in fields])
                for name in fields:
                    self.assertIs(getattr(made, name), value)

    def test_fields_may_be_mixed(self):
        clash = Clash(1, second=2)
        self.assertEqual((clash.first, clash.second), (1, 2))
        clash = Clash(second=3, first=4)
        self.assertEqual((clash.first, clash.second), (4, 3))

    def test_wrong_number_of_fields(self):
        for error, fields in FIELDS:
            if fields:
                with self.assertRaises(TypeError):
                    error()


class WhichErrorFirst(unittest.TestCase):

    def raised(self, error, call, *arguments, **named):
        with self.assertRaises(AgeError) as caught:
            call(*arguments, **named)
        self.assertIs(type(caught.exception), error)
        return vars(caught.exception)

    def test_arguments_from_left_to_right(self):
        wording = Wording([Row(None, 60, "down", "m")])
        self.assertEqual(self.raised(BadAge, wording.edges, -2, -1), {"age": -2})
        self.assertEqual(self.raised(BadAge, wording.edges, high=-1, low=-2), {"age": -2})
        self.assertEqual(self.raised(BadAge, wording.edges, -3, 5), {"age": -3})
        self.assertEqual(self.raised(BadAge, wording.edges, 0, -4), {"age": -4})

    def test_first_wrong_row(self):
        rows = [Row(5, None, "down", "a"), Row(None, 1, "up", "b"), Row(3, 1, "up", "b"), Row(9, 1, "up", "b")]
        self.assertEqual(self.raised(BadRow, Wording, rows), {"index": 1})
        self.assertEqual(self.raised(BadRow, Wording, rows[2:1:-1] + rows[2:]), {"index": 1})
        self.assertEqual(self.raised(BadRow, Wording, [Row(0, 1, "up", "a")] + rows), {"index": 0})

    def test_first_wrong_line(self):
        self.assertEqual(self.raised(BadText, Wording.read, "5 - down a\n5 - down b\nc"), {"line": 2})
        self.assertEqual(self.raised(BadText, Wording.read, "x\ny"), {"line": 1})

    def test_unsteady_first_of_all(self):
        back = Wording([Row(600, 60, "down", "m"), Row(None, 120, "down", "m")])
        twice = Wording([Row(3, None, "down", "a"), Row(5, None, "down", "b"), Row(None, None, "down", "a")])
        self.assertEqual(self.raised(Unsteady, finer, back, twice), {"age": 600})
        self.assertEqual(self.raised(Unsteady, finer, twice, back), {"age": 5})
        self.assertEqual(self.raised(Unsteady, harmless, back, 7, "down"), {"age": 600})

    def test_equal_calls_raise_equal_errors(self):
        for _ in range(2):
            wording = Wording([Row(600, 60, "down", "m"), Row(None, 120, "down", "m")])
            self.assertEqual(self.raised(BadAge, wording.label, -5), {"age": -5})
            self.assertEqual(self.raised(Unsteady, harmless, wording, 1, "up"), {"age": 600})

    def test_a_call_that_raises_changes_nothing(self):
        wording = Wording([Row(600, 60, "down", "m"), Row(None, 120, "down", "m")])
        text = str(wording)
        rows = [Row(5, None, "down", "a"), Row(4, None, "down", "b")]
        self.raised(BadRow, Wording, rows)
        self.raised(BadAge, wording.later_edge, -1)
        self.raised(Unsteady, finer, wording, wording)
        self.assertEqual(rows, [Row(5, None, "down", "a"), Row(4, None, "down", "b")])
        self.assertEqual(str(wording), text)
        self.assertEqual(wording.label(600), ("m", 5))


if __name__ == "__main__":
    unittest.main()
