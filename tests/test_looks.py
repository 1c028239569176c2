"""[30] shown, [31] events, [32] order, [33] same_events."""

import random
import unittest

from agewords.errors import Clash, Unsteady
from agewords.looks import events, order, same_events, shown
from tests import played
from tests.walked import WAYS, built, one_row_wordings, small_wordings

GREAT = 10 ** 30
ONE, OTHER = 10 ** 30 - 1, 10 ** 30 - 11
FACTOR = 10 ** 28 + 7

USUAL = [(60, None, "down", "now"), (3600, 60, "down", "m"), (None, 3600, "near", "h")]
BACK = [(600, 60, "down", "m"), (None, 120, "down", "m")]


def one_row(unit, way="down"):
    return built([(None, unit, way, "m")])


def random_look(chance, rows, about):
    """A look with a label that is shown somewhere, or with one that is not, or with None."""
    what = chance.random()
    moment = chance.randint(-20, 20)
    if what < 0.75:
        return (moment, played.look_at(rows, about + chance.randint(-2, 2), moment))
    if what < 0.95:
        return (moment, played.look_at(rows, chance.randint(-40, 20), moment))
    return (moment, chance.choice((("q", None), ("m", None), ("m", -1), ("m", 0), ("h", 2), ("m", 50))))


class Shown(unittest.TestCase):

    def test_ordinary(self):
        wording = built(USUAL)
        self.assertEqual(shown(wording, 100, [100, 159, 160, 99, 3699, 3700, 5499, 5500]),
                         [("now", None), ("now", None), ("m", 1), None, ("m", 59), ("h", 1), ("h", 1), ("h", 2)])
        self.assertEqual(shown(wording, -100, [-101, -100, 0]), [None, ("now", None), ("m", 1)])

    def test_no_moments(self):
        self.assertEqual(shown(built(USUAL), 5, []), [])
        self.assertEqual(shown(built(USUAL), 5, ()), [])

    def test_a_list_is_told(self):
        self.assertIs(type(shown(built(USUAL), 5, (1, 2))), list)

    def test_the_wording_need_not_be_steady(self):
        self.assertEqual(shown(built(BACK), 0, [300, 600]), [("m", 5), ("m", 5)])

    def test_events_one_by_one(self):
        chance = random.Random(300)
        for rows in small_wordings(301, 200, most_rows=4):
            moments = [chance.randint(-30, 60) for _ in range(chance.randint(0, 8))]
            for event in range(-35, 35, 7):
                self.assertEqual(shown(built(rows), event, moments),
                                 [played.look_at(rows, event, moment) for moment in moments])

    def test_great(self):
        wording = built([(1, None, "down", "now"), (GREAT, 1, "down", "s"), (None, ONE, "near", "m")])
        self.assertEqual(shown(wording, -GREAT, [-GREAT - 1, -GREAT, -1, 0, GREAT]),
                         [None, ("now", None), ("s", GREAT - 1), ("m", 1), ("m", 2)])


class Events(unittest.TestCase):

    def test_ordinary(self):
        wording = built(USUAL)
        self.assertEqual(events(wording, [(1000, ("m", 2))]), (821, 880))
        self.assertEqual(events(wording, [(1000, ("now", None))]), (941, 1000))
        self.assertEqual(events(wording, [(1000, None)]), (1001, None))
        self.assertEqual(events(wording, [(1000, None), (1100, ("now", None))]), (1041, 1100))
        self.assertEqual(events(wording, [(-1000, ("h", 1))]), (-6399, -4600))

    def test_no_looks(self):
        self.assertEqual(events(built(USUAL), []), (None, None))
        self.assertEqual(events(built(USUAL), ()), (None, None))

    def test_no_bound_below(self):
        wording = built([(60, None, "down", "now"), (None, None, "up", "old")])
        self.assertEqual(events(wording, [(0, ("old", None))]), (None, -60))
        self.assertEqual(events(wording, [(0, ("old", None)), (-30, ("now", None))]), (-89, -60))
        self.assertEqual(events(one_row(None), [(7, ("m", None)), (3, ("m", None))]), (None, 3))

    def test_a_label_of_several_rows(self):
        wording = built([(90, 60, "down", "m"), (None, 60, "down", "m")])
        self.assertEqual(events(wording, [(0, ("m", 1))]), (-119, -60))

    def raised(self, rows, seen):
        with self.assertRaises(Clash) as caught:
            events(built(rows), seen)
        return (caught.exception.first, caught.exception.second)

    def test_clash(self):
        seen = [(1000, ("m", 2)), (1100, ("m", 3)), (1200, ("m", 6))]
        self.assertEqual(self.raised(USUAL, seen), (1, 2))
        self.assertEqual(self.raised(USUAL, seen[::-1]), (0, 1))
        self.assertEqual(self.raised(USUAL, [(0, None), (-1, ("now", None))]), (0, 1))
        self.assertEqual(self.raised(USUAL, [(0, ("now", None)), (60, ("now", None)), (30, ("now", None))]), (0, 1))

    def test_a_label_that_is_never_shown(self):
        for label in (("q", None), ("now", 0), ("m", None), ("m", 0), ("m", -1), ("m", 60), ("h", 0), ("", None)):
            self.assertEqual(self.raised(USUAL, [(0, label)]), (0, 0))
            first, second = self.raised(USUAL, [(0, ("now", None)), (5, label)])
            self.assertEqual(second, 1)
            self.assertLessEqual(first, second)
        self.assertEqual(self.raised(USUAL, [(0, ("m", GREAT * GREAT))]), (0, 0))

    def test_unsteady_first_of_all(self):
        for seen in ([], [(0, ("q", None))], [(0, ("m", 1)), (500, ("m", 1))]):
            with self.assertRaises(Unsteady) as caught:
                events(built(BACK), seen)
            self.assertEqual(caught.exception.age, 600)

    def hold(self, rows, seen, low, high):
        found = played.alike_events(rows, seen, low, high)
        if found:
            self.assertEqual(events(built(rows), seen), played.stretch_of(found, low, high), (rows, seen))
            return False
        first, second = self.raised(rows, seen)
        self.assertLessEqual(first, second)
        pair = [seen[first], seen[second]]
        self.assertEqual(played.alike_events(rows, pair, low, high), [], (rows, seen))
        if first == second:
            self.assertEqual(played.alike_events(rows, pair[:1], low, high), [], (rows, seen))
        return True

    def test_events_one_by_one(self):
        chance = random.Random(310)
        clashes = 0
        all_rows = played.steady_small(311, 400) + one_row_wordings(5)
        for rows in all_rows:
            for _ in range(4):
                about = chance.randint(-40, 20)
                seen = [random_look(chance, rows, about) for _ in range(chance.randint(0, 4))]
                clashes += self.hold(rows, seen, -500, 60)
        self.assertGreater(clashes, 200)
        self.assertLess(clashes, 4 * len(all_rows) - 400)

    def test_great(self):
        for way in WAYS:
            more = {"down": 0, "up": ONE - 1, "near": ONE // 2}[way]
            wording = one_row(ONE, way)
            self.assertEqual(events(wording, [(GREAT, ("m", 7))]),
                             (GREAT - 8 * ONE + more + 1, GREAT - 7 * ONE + more))
            seen = [(0, ("m", 5)), (OTHER, ("m", 6))]
            self.assertEqual(events(wording, seen), (-6 * ONE + more + 1, OTHER - 6 * ONE + more))
            with self.assertRaises(Clash):
                events(wording, seen + [(OTHER - 1, ("m", 5)), (1, ("m", 6))])

    def test_great_rows(self):
        wording = built([(1, None, "down", "now"), (GREAT, 1, "down", "s"), (None, ONE, "near", "m")])
        self.assertEqual(events(wording, [(3, ("s", GREAT - 1))]), (4 - GREAT, 4 - GREAT))
        self.assertEqual(events(wording, [(3, ("m", 1))]), (-ONE - ONE // 2 + 3, 3 - GREAT))
        count = GREAT * GREAT
        self.assertEqual(events(wording, [(0, ("m", count))]),
                         (-count * ONE - ONE // 2, -count * ONE + ONE // 2))

    def test_multiplied(self):
        chance = random.Random(312)
        for rows in played.all_down(played.steady_small(313, 200)):
            event = chance.randint(-40, 10)
            moments = [chance.randint(-20, 20) for _ in range(3)]
            seen = [(moment, played.look_at(rows, event, moment)) for moment in moments]
            low, high = played.stretch_of(played.alike_events(rows, seen, -500, 60), -500, 60)
            wording = built(played.multiplied(rows, FACTOR))
            great = [(moment * FACTOR, label) for moment, label in seen]
            self.assertEqual(events(wording, great), (None if low is None else (low - 1) * FACTOR + 1,
                                                      None if high is None else high * FACTOR))


class Order(unittest.TestCase):

    def test_ordinary(self):
        wording = one_row(60)
        at_1000, at_1060 = [(1000, ("m", 0))], [(1060, ("m", 0))]
        self.assertEqual(order(wording, at_1000, at_1060), ("before",))
        self.assertEqual(order(wording, at_1060, at_1000), ("after",))
        self.assertEqual(order(wording, at_1000, at_1000), ("before", "same", "after"))
        self.assertEqual(order(wording, at_1000, [(1059, ("m", 0))]), ("before", "same"))
        self.assertEqual(order(wording, [(1059, ("m", 0))], at_1000), ("same", "after"))

    def test_one_event_alone(self):
        wording = one_row(1)
        self.assertEqual(order(wording, [(5, ("m", 2))], [(4, ("m", 1))]), ("same",))
        self.assertEqual(order(wording, [(5, ("m", 2))], [(5, ("m", 1))]), ("before",))
        self.assertEqual(order(wording, [(5, ("m", 1))], [(5, ("m", 2))]), ("after",))

    def test_no_looks(self):
        wording = built(USUAL)
        self.assertEqual(order(wording, [], []), ("before", "same", "after"))
        self.assertEqual(order(wording, [], [(0, ("m", 1))]), ("before", "same", "after"))
        self.assertEqual(order(wording, [(0, None)], ()), ("before", "same", "after"))

    def test_no_bounds(self):
        wording = built([(60, None, "down", "now"), (None, None, "up", "old")])
        old, not_yet = [(0, ("old", None))], [(-60, None)]
        self.assertEqual(order(wording, old, not_yet), ("before",))
        self.assertEqual(order(wording, not_yet, old), ("after",))
        self.assertEqual(order(wording, old, [(-61, None)]), ("before", "same"))
        self.assertEqual(order(wording, [(-61, None)], old), ("same", "after"))
        self.assertEqual(order(wording, old, [(-62, None)]), ("before", "same", "after"))

    def test_errors_in_their_order(self):
        wrong, worse = [(0, ("q", None))], [(0, None), (0, ("m", 1))]
        with self.assertRaises(Clash) as caught:
            order(built(USUAL), wrong, worse)
        self.assertEqual((caught.exception.first, caught.exception.second), (0, 0))
        with self.assertRaises(Clash) as caught:
            order(built(USUAL), worse, wrong)
        self.assertEqual((caught.exception.first, caught.exception.second), (0, 1))
        with self.assertRaises(Clash) as caught:
            order(built(USUAL), [], worse)
        self.assertEqual((caught.exception.first, caught.exception.second), (0, 1))
        with self.assertRaises(Unsteady) as caught:
            order(built(BACK), wrong, worse)
        self.assertEqual(caught.exception.age, 600)

    def test_events_one_by_one(self):
        chance = random.Random(320)
        answers = {}
        for rows in played.steady_small(321, 500):
            lists = []
            about = chance.randint(-30, 20)
            for _ in range(2):
                event = about + chance.randint(-3, 3)
                moments = [chance.randint(-20, 25) for _ in range(chance.randint(1, 4))]
                lists.append([(moment, played.look_at(rows, event, moment)) for moment in moments])
            one, other = [played.alike_events(rows, seen, -300, 60) for seen in lists]
            can = {("before" if e < f else "same" if e == f else "after") for e in one for f in other}
            answer = tuple(word for word in ("before", "same", "after") if word in can)
            self.assertEqual(order(built(rows), lists[0], lists[1]), answer, (rows, lists))
            answers[answer] = answers.get(answer, 0) + 1
        self.assertEqual(len(answers), 6, answers)

    def test_great(self):
        wording = one_row(ONE, "near")
        seen = [(0, ("m", 10 ** 9))]
        for apart, answer in ((ONE, ("before",)), (ONE - 1, ("before", "same")), (1, ("before", "same", "after")),
                              (1 - ONE, ("same", "after")), (-ONE, ("after",))):
            self.assertEqual(order(wording, seen, [(apart, ("m", 10 ** 9))]), answer)


class SameEvents(unittest.TestCase):

    def test_ordinary(self):
        wording = built(USUAL)
        self.assertEqual(same_events(wording, [1000], 870), (821, 880))
        self.assertEqual(same_events(wording, [1000, 1100], 870), (861, 880))
        self.assertEqual(same_events(wording, [1000, 860], 870), (861, 880))
        self.assertEqual(same_events(wording, [1000], 1001), (1001, None))
        self.assertEqual(same_events(wording, [1000], 1000), (941, 1000))
        self.assertEqual(same_events(one_row(None), [5, 9], 5), (None, 5))

    def test_no_looks(self):
        self.assertEqual(same_events(built(USUAL), [], 5), (None, None))

    def test_unsteady(self):
        for moments in ([], [5]):
            with self.assertRaises(Unsteady) as caught:
                same_events(built(BACK), moments, 7)
            self.assertEqual(caught.exception.age, 600)

    def test_events_one_by_one(self):
        chance = random.Random(330)
        for rows in played.steady_small(331, 500):
            moments = [chance.randint(-20, 40) for _ in range(chance.randint(0, 5))]
            event = chance.randint(-40, 30)
            seen = [(moment, played.look_at(rows, event, moment)) for moment in moments]
            found = played.alike_events(rows, seen, -400, 60)
            self.assertEqual(same_events(built(rows), moments, event), played.stretch_of(found, -400, 60))

    def test_great(self):
        wording = built([(1, None, "down", "now"), (GREAT, 1, "down", "s"), (None, ONE, "down", "m")])
        self.assertEqual(same_events(wording, [-5], -GREAT), (-GREAT, -GREAT))
        self.assertEqual(same_events(wording, [0, OTHER], -3 * ONE), (-4 * ONE + OTHER + 1, -3 * ONE))
        self.assertEqual(same_events(wording, [GREAT], GREAT + 1), (GREAT + 1, None))


class Arguments(unittest.TestCase):

    def test_by_name(self):
        wording, seen = one_row(60), [(1000, ("m", 2))]
        self.assertEqual(shown(moments=[1000], event=870, wording=wording), [("m", 2)])
        self.assertEqual(events(seen=seen, wording=wording), (821, 880))
        self.assertEqual(order(other=[(900, None)], seen=seen, wording=wording), ("before",))
        self.assertEqual(same_events(event=870, moments=[1000], wording=wording), (821, 880))

    def test_lists_or_tuples_and_nothing_changes(self):
        wording, seen, moments = one_row(60), [(1000, ("m", 2)), (1100, ("m", 3))], [1000, 1100]
        for _ in range(2):
            self.assertEqual(events(wording, tuple(seen)), events(wording, seen))
            self.assertEqual(order(wording, tuple(seen), seen), order(wording, seen, tuple(seen)))
            self.assertEqual(same_events(wording, tuple(moments), 870), same_events(wording, moments, 870))
            self.assertEqual(shown(wording, 870, tuple(moments)), shown(wording, 870, moments))
        self.assertEqual((seen, moments), ([(1000, ("m", 2)), (1100, ("m", 3))], [1000, 1100]))
        self.assertEqual(wording, one_row(60))

    def test_equal_calls_raise_equal_errors(self):
        seen = [(1000, ("m", 2)), (1100, ("m", 3)), (1200, ("m", 6)), (0, ("m", 100)), (0, None)]
        raised = []
        for given in (seen, list(seen), tuple(seen)):
            with self.assertRaises(Clash) as caught:
                events(one_row(60), given)
            raised.append(vars(caught.exception))
        self.assertEqual(raised, raised[:1] * 3)

    def test_what_is_told_may_be_passed_on_however_great(self):
        wording = built([(60, None, "down", "now"), (None, ONE, "near", "h")])
        event = -GREAT
        for _ in range(150):
            label, = shown(wording, event, [0])
            low, high = events(wording, [(0, label)])
            self.assertEqual((low <= event <= high, high - low), (True, ONE - 1))
            self.assertEqual(same_events(wording, [0], high), (low, high))
            self.assertEqual(order(wording, [(0, label)], [(high - low + 1, label)]), ("before",))
            event = low * GREAT
        self.assertLess(event, -10 ** 4500)

    def test_many_looks(self):
        wording = built(USUAL)
        moments = list(range(0, 40000, 3))
        # Moments and edges are multiples of 3, and so tell of the event no more than this.
        self.assertEqual(same_events(wording, moments, -100), (-101, -99))
        self.assertEqual(events(wording, list(zip(moments, shown(wording, -100, moments)))), (-101, -99))


if __name__ == "__main__":
    unittest.main()
