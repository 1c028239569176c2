"""The examples of the document and of README.md, as they stand there."""

import doctest
import pathlib
import unittest

WORDINGS = (
    r"""
>>> from agewords.wordings import Row, Wording
>>> wording = Wording([Row(60, None, "down", "now"), Row(3600, 60, "down", "m"), Row(None, 3600, "near", "h")])
>>> [wording.text(age) for age in (0, 59, 60, 3599, 3600, 5399, 5400)]
['now', 'now', '1 m', '59 m', '1 h', '1 h', '2 h']
""",
    r"""
>>> from agewords.wordings import Row, Wording
>>> wording = Wording([Row(60, None, "down", "now"), Row(3600, 60, "down", "m"), Row(None, 3600, "near", "h")])
>>> (wording.later_edge(3600), wording.last_edge(5399), wording.edges(0, 10 ** 6), wording.ages(("h", 1)), wording.returns())
(5400, 3600, 337, ((3600, 5399),), None)
""")

LOOKS = (
    r"""
>>> from agewords.looks import events, order, shown
>>> from agewords.wordings import Row, Wording
>>> wording, seen = Wording([Row(None, 60, "down", "m")]), [(1000, ("m", 2)), (1100, ("m", 3))]
>>> (events(wording, seen), shown(wording, 870, [1000, 1100, 800]), order(wording, seen, [(900, None)]))
((861, 880), [('m', 2), ('m', 3), None], ('before',))
""",)

BEATS = (
    r"""
>>> from agewords.beats import Beat, known, needed
>>> from agewords.wordings import Row, Wording
>>> wording = Wording([Row(None, 60, "down", "m")])
>>> (known(wording, Beat(0, 42, None), -100), known(wording, Beat(0, 42, 3), -100), needed(wording, Beat(0, 42, None), -100, 6))
((-101, -96), (-119, -96), 10)
""",)

SCREENS = (
    r"""
>>> from agewords.screens import Screen, greatest_waits, latest, skipped
>>> from agewords.wordings import Row, Wording
>>> wording = Wording([Row(60, None, "down", "now"), Row(None, 7, "down", "m")])
>>> screen = Screen(Wording([Row(None, 60, "down", "m")]), [100])
>>> (latest(screen, 0, 70), skipped(screen, 0, None), screen.shows(0, 199), greatest_waits(wording))
((40, 0), 120, ('m', 1), (60, 1))
""",)

PHASES = (
    r"""
>>> from agewords.phases import events_of, pieces
>>> from agewords.wordings import Row, Wording
>>> told = pieces(Wording([Row(None, 60, "down", "m")]), 30, [(100, ("m", 1))])
>>> (told, events_of(told))
((((0, 10), (-29, 30)), ((11, 29), (-59, 0))), ((-48, 40),))
""",)


class Examples(unittest.TestCase):

    def run_example(self, text, name):
        example = doctest.DocTestParser().get_doctest(text, {}, name, None, 0)
        self.assertGreater(len(example.examples), 0)
        report = []
        failed = doctest.DocTestRunner(verbose=False).run(example, out=report.append).failed
        self.assertEqual(failed, 0, "".join(report))

    def test_wordings(self):
        for text in WORDINGS:
            self.run_example(text, "wordings")

    def test_looks(self):
        for text in LOOKS:
            self.run_example(text, "looks")

    def test_beats(self):
        for text in BEATS:
            self.run_example(text, "beats")

    def test_screens(self):
        for text in SCREENS:
            self.run_example(text, "screens")

    def test_phases(self):
        for text in PHASES:
            self.run_example(text, "phases")

    def test_readme(self):
        readme = pathlib.Path(__file__).resolve().parent.parent / "README.md"
        self.run_example(readme.read_text(encoding="utf-8").replace("```", ""), "README")


if __name__ == "__main__":
    unittest.main()
