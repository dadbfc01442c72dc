"""Point 18, whosefirst/check_stories.py."""

import random

from bent import bent_papers
from helpers import AlwaysEqual, Case, no_values
from own import KINDS, random_span
from own_stories import is_held, is_struck, is_sure
from test_sayings import OwnRow
from test_stories import GAP, MORE, PACES, TOLD, random_pace, random_story, some_stories
from whosefirst.check_stories import shows_held, shows_struck, shows_sure
from whosefirst.errors import BadPace, BadRow, BadStory, NoHappening, Unlike
from whosefirst.paces import Pace
from whosefirst.papers import Denial, Paper
from whosefirst.ratios import Ratio
from whosefirst.rows import AnyRow, Row
from whosefirst.steps import Step
from whosefirst.stories import Held, Mixed, Story, held
from whosefirst.sure import Against, Stretch, Struck, Sure, Unsure, fewest_struck, sure_row

QUARTER, REST = Pace([Ratio(1, 4)]), Pace([0])
LATE = Row.ahead("a", "b")
SPOTS = [("a", Step(0, [0])), ("b", Step(1, [1]))]
LEVEL = [("a", Step(0, [0])), ("b", Step(0, [0]))]


def some(source, papers, most=120):
    return papers if len(papers) <= most else source.sample(papers, most)


class Told(Case):

    def looks(self, shown, due):
        self.assertIs(shown, due)
        self.looked[due] = self.looked.get(due, 0) + 1

    def setUp(self):
        self.looked = {}

    def test_all_that_is_told_is_shown(self):
        source = random.Random(120)
        words = set()
        for story in some_stories():
            paper = held(story)
            self.assertIs(shows_held(story, paper), True)
            words.add(paper.word)
            if len(story.reports) <= 6:
                self.assertIs(shows_struck(story, fewest_struck(story)), True)
            if paper:
                for kind in KINDS:
                    pace, row = random_pace(source, story.axes), Row(random_span(source, story.names), kind)
                    told = sure_row(story, pace, row)
                    self.assertIs(shows_sure(story, pace, row, told), True)
                    words.add(told.word)
        self.assertEqual(words, {"held", "mixed", "sure", "against", "unsure"})

    def test_bent_papers(self):
        source = random.Random(121)
        for story in some_stories()[::3]:
            for paper in some(source, bent_papers(held(story))):
                self.looks(shows_held(story, paper), is_held(story, paper))
            if held(story):
                pace, row = random_pace(source, story.axes), Row(random_span(source, story.names), source.choice(KINDS))
                for paper in some(source, bent_papers(sure_row(story, pace, row))):
                    self.looks(shows_sure(story, pace, row, paper), is_sure(story, pace, row, paper))
            if len(story.reports) <= 6:
                for paper in some(source, bent_papers(fewest_struck(story)), 60):
                    self.looks(shows_struck(story, paper), is_struck(story, paper))
        self.assertGreater(min(self.looked.values()), 100)

    def test_rows_that_are_sure_bent(self):
        for row in (LATE, Row(GAP, ">="), Row.level("a", "b"), Row.ahead("b", "a")):
            level = Story(1, ["a", "b"], PACES, [("rest", Row.level("a", "b")), ("fast", Row.level("a", "b"))])
            for story in (TOLD, level):
                for paper in bent_papers(sure_row(story, QUARTER, row)):
                    self.looks(shows_sure(story, QUARTER, row, paper), is_sure(story, QUARTER, row, paper))
        self.assertGreater(min(self.looked.values()), 3)


class Shown(Case):

    def test_held_by_hand(self):
        self.assertIs(shows_held(MORE, Mixed([0, 1, 1])), True)
        self.assertIs(shows_held(value=Held(SPOTS), story=TOLD), True)
        for value in (Held([(AlwaysEqual(), Step(0, [0])), ("b", Step(1, [1]))]), Mixed([1, -1]), Mixed([0, 0]), Mixed([1, 1]), Mixed([]), Held(LEVEL), Held(SPOTS[:1]), Held(SPOTS[::-1]), Held([*SPOTS, ("c", Step(0, [0]))]),
                      Held([("a", Step(0, [0, 0])), ("b", Step(1, [1, 0]))]), Held([("a", "0 0"), ("b", "1 1")]), Held([("a", None), ("b", None)]), Held(None), Held("ab")):
            self.assertIs(shows_held(TOLD, value), False)
        self.assertIs(shows_held(TOLD, Held({"b": Step(1, [1]), "a": Step(0, [0])})), True)
        self.assertIs(shows_held(TOLD, Held([["a", Step(0, (0,))], ["b", Step(Ratio(1), [Ratio(1)])]])), True)
        # At one time and place all but late rows are kept.
        self.assertIs(shows_held(Story(1, ["a", "b"], PACES, [("rest", Row(GAP, ">=")), ("fast", Row.level("a", "b"))]), Held(LEVEL)), True)
        self.assertIs(shows_held(Story(1, ["a"], {}, []), Held([("a", Step(7, [Ratio(1, 2)]))])), True)
        self.assertIs(shows_held(Story(1, ["a"], {}, []), Mixed([])), False)

    def test_weights_that_mix(self):
        both = Story(1, ["a", "b"], PACES, [("rest", Row(GAP, "=")), ("rest", LATE), ("fast", Row(-GAP, ">="))])
        for weights, due in (([-1, 1, 0], True), ([Ratio(-1, 2), Ratio(1, 2), 0], True), ([1, -1, 0], False), ([0, 1, 1], False), ([-1, 1, 1], False),
                             ([0, 0, 0], False), ([-1, 1], False), ([-1, 1, 0, 0], False), ([-1, True, 0], False), ([-1, 1, False], False), ([-1, 1, None], False),
                             ((-3, 3, 0), True), ("abc", False), (None, False), (0, False)):
            self.assertIs(shows_held(both, Mixed(weights)), due)
        # One span at unlike paces adds up to nothing only with the paces, too.
        plane = Story(2, ["a", "b"], {"x": Pace([Ratio(1, 2), 0]), "y": Pace([Ratio(-1, 2), 0]), "z": Pace([0, Ratio(1, 2)]), "o": Pace([0, 0])},
                      [("x", LATE), ("y", LATE), ("z", LATE), ("o", Row.ahead("b", "a"))])
        for weights, due in (([1, 1, 0, 2], True), ([1, 1, 1, 3], False), ([2, 0, 0, 2], False), ([0, 0, 1, 1], False)):
            self.assertIs(shows_held(plane, Mixed(weights)), due)

    def test_sure_by_hand(self):
        self.assertIs(shows_sure(TOLD, QUARTER, LATE, Sure([[1, 1, 2]])), True)
        self.assertIs(shows_sure(value=Against([1, 0, 1]), row=Row.ahead("b", "a"), pace=REST, story=TOLD), True)
        for value in (Sure([[1, 1, 1]]), Sure([1, 1, 2]), Sure([]), Sure([[1, 1, 2], [1, 1, 2]]), Sure([[1, 1]]), Sure(None), Against([1, 1, 2]), Against([1, 0, 1]),
                      Unsure(SPOTS, LEVEL), Unsure(SPOTS, SPOTS)):
            self.assertIs(shows_sure(TOLD, QUARTER, LATE, value), False)
        fast, far = Pace([Ratio(3, 4)]), [("a", Step(0, [0])), ("b", Step(Ratio(3, 5), [1]))]
        near = [("a", Step(0, [0])), ("b", Step(1, [0]))]
        for one, other, due in ((near, far, True), (far, near, False), (near, near, False), (far, far, False), (near, LEVEL, False), (near, None, False), (None, far, False)):
            self.assertIs(shows_sure(TOLD, fast, LATE, Unsure(one, other)), due)

    def test_level_rows_have_two_contraries(self):
        level = Story(1, ["a", "b"], PACES, [("rest", Row.level("a", "b")), ("fast", Row.level("a", "b"))])
        row = Row.level("a", "b")
        for weights, due in (([[-1, -1, 2], [1, 1, 2]], True), ([[1, 1, 2], [-1, -1, 2]], False), ([[-1, -1, 2]], False), ([[-1, -1, 2]] * 2, False)):
            self.assertIs(shows_sure(level, QUARTER, row, Sure(weights)), due)

    def test_stories_that_do_not_hold(self):
        for row in (LATE, Row.level("a", "b"), Row(GAP, ">=")):
            many = len(row.contraries())
            self.assertIs(shows_sure(MORE, QUARTER, row, Sure([[0, 1, 1, 0]] * many)), True)
            self.assertIs(shows_sure(MORE, QUARTER, row, Against([0, 1, 1, 0])), True)
            self.assertIs(shows_sure(MORE, QUARTER, row, Sure([[1, 0, 1, 0]] * many)), False)
            self.assertIs(shows_sure(MORE, QUARTER, row, Unsure(SPOTS, LEVEL)), False)

    def test_struck_by_hand(self):
        paper = fewest_struck(MORE)
        self.assertIs(shows_struck(value=paper, story=MORE), True)
        self.assertEqual(paper.numbers, (1,))
        late = Struck((2,), SPOTS, [[0, 1, 1], [0, 1], [1, 1]])
        self.assertIs(shows_struck(MORE, late), False)
        for numbers in ([0], [2], [1, 1], [1, 2], [True], [Ratio(1)], [-1], [3], 1, None, "1", [None]):
            self.assertIs(shows_struck(MORE, Struck(numbers, paper.spots, paper.papers)), False)
        self.assertIs(shows_struck(MORE, Struck([1], paper.spots, [[0, 1, 1], [Ratio(7, 2), Ratio(7, 2)]])), True)
        for papers in ((), paper.papers[:1], paper.papers[::-1], [*paper.papers, paper.papers[1]], None, [None, None]):
            self.assertIs(shows_struck(MORE, Struck([1], paper.spots, papers)), False)
        self.assertIs(shows_struck(TOLD, Struck([], SPOTS, [])), True)
        self.assertIs(shows_struck(TOLD, Struck([0], SPOTS, [])), False)

    def test_beyond_the_bounds(self):
        long = Story(1, ["a", "b"], PACES, [("rest", LATE)] * 11 + [("rest", Row.ahead("b", "a"))])
        weights = [1] + [0] * 10 + [1]
        sets = 1 + 11
        papers = [weights, *[[1, *[0] * 9, 1] if at == 0 else weights[:at] + weights[at + 1:] for at in range(11)]]
        self.assertEqual(len(papers), sets)
        self.assertIs(shows_struck(long, Struck([11], SPOTS, papers)), True)
        self.assertIs(shows_struck(long, Struck([11], SPOTS, papers[:-1])), False)
        self.assertIs(shows_struck(long, Struck(list(range(11)), [("a", Step(1, [0])), ("b", Step(0, [0]))], papers)), False)
        self.assertIs(shows_held(long, Mixed(weights)), True)

    def test_only_these_papers(self):
        for value in [*no_values(), Paper("held", SPOTS), Denial("mixed", [1, 1]), Stretch(0, 1, True, False), SPOTS, [1, 1, 2]]:
            self.assertIs(shows_held(TOLD, value), False)
            self.assertIs(shows_sure(TOLD, QUARTER, LATE, value), False)
            self.assertIs(shows_struck(TOLD, value), False)
        self.assertIs(shows_held(TOLD, Struck([], SPOTS, [])), False)
        self.assertIs(shows_sure(TOLD, QUARTER, LATE, Held(SPOTS)), False)
        self.assertIs(shows_struck(TOLD, Held(SPOTS)), False)

    def test_wrong_values(self):
        self.refuses_each(BadStory("story"), lambda value: shows_held(value, None), no_values())
        self.refuses_each(BadStory("story"), lambda value: shows_struck(value, None), no_values())
        self.refuses_each(BadStory("story"), lambda value: shows_sure(value, None, None, None), no_values())
        self.refuses_each(BadPace("pace"), lambda value: shows_sure(MORE, value, None, None), no_values())
        self.refuses_each(BadRow("row"), lambda value: shows_sure(MORE, Pace([0, 0]), value, None), [*no_values(), AnyRow(), OwnRow("x"), GAP])
        strange = Row.ahead("z", "y")
        self.refuses(Unlike("axes"), shows_sure, MORE, Pace([0, 0]), strange, None)
        self.refuses(NoHappening("y"), shows_sure, MORE, REST, strange, None)
