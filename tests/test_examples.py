"""The examples of the document and of README.md, as they stand there."""

import doctest
import pathlib
import unittest

WORDINGS = (
    r"""
>>> from agewords.wordings import Row, Wording
>>> wording = Wording([Row(60, None, "down", "now"), Row(3600, 60, "down", "m"), Row(None, 3600, "near", "h")])
>>> [wording.text(age) for age in (0, 59, 60, 3599, 3600, 5399, 5400)]
['now', 'now', '1 m', '59 m', '1 h', '1 h', '2 h']
""",
    r"""
>>> from agewords.wordings import Row, Wording
>>> wording = Wording([Row(60, None, "down", "now"), Row(3600, 60, "down", "m"), Row(None, 3600, "near", "h")])
>>> (wording.later_edge(3600), wording.last_edge(5399), wording.edges(0, 10 ** 6), wording.ages(("h", 1)), wording.returns())
(5400, 3600, 337, ((3600, 5399),), None)
""")


class Examples(unittest.TestCase):

    def run_example(self, text, name):
        example = doctest.DocTestParser().get_doctest(text, {}, name, None, 0)
        self.assertGreater(len(example.examples), 0)
        report = []
        failed = doctest.DocTestRunner(verbose=False).run(example, out=report.append).failed
        self.assertEqual(failed, 0, "".join(report))

    def test_wordings(self):
        for text in WORDINGS:
            self.run_example(text, "wordings")

    def test_readme(self):
        readme = pathlib.Path(__file__).resolve().parent.parent / "README.md"
        self.run_example(readme.read_text(encoding="utf-8").replace("```", ""), "README")


if __name__ == "__main__":
    unittest.main()
