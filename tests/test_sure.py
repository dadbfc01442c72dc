"""Point 18, whosefirst/sure.py."""

import random
from itertools import combinations

from helpers import Case, no_values
from own import KINDS, random_span
from own_stories import do_keep, told_of
from test_sayings import OwnRow
from test_stories import GAP, MORE, PACES, TOLD, random_pace, random_story, some_stories, weights_mix
from whosefirst.carried import carried_pace
from whosefirst.errors import BadPace, BadRow, BadSpan, BadStory, Impossible, NoHappening, TooMany, Unlike
from whosefirst.paces import Pace
from whosefirst.papers import Denial, Paper
from whosefirst.ratios import Ratio
from whosefirst.rows import AnyRow, Row
from whosefirst.spans import Span
from whosefirst.stories import Story, held
from whosefirst.sure import Against, Stretch, Struck, Sure, Unsure, fewest_struck, sure_paces, sure_row

HALF = Ratio(1, 2)
NEAR = Ratio(1, 10 ** 30)


def is_in(stretch, part):
    """Whether a ratio is among the paces of a Stretch, or of None."""
    if stretch is None or part.is_below(stretch.low) or stretch.high.is_below(part):
        return False
    return (part != stretch.low or stretch.is_low_in) and (part != stretch.high or stretch.is_high_in)


class Rows(Case):

    def is_told_right(self, story, pace, row, paper):
        told = told_of(story)
        contraries = [[*told, (pace, contrary)] for contrary in row.contraries()]
        if paper.word == "sure":
            self.assertIs(type(paper), Sure)
            self.assertEqual(len(paper.weights), len(contraries))
            for weights, reports in zip(paper.weights, contraries):
                self.assertTrue(weights_mix(story, weights, reports))
        elif paper.word == "against":
            self.assertIs(type(paper), Against)
            self.assertTrue(weights_mix(story, paper.weights, [*told, (pace, row)]))
        else:
            self.assertIs(type(paper), Unsure)
            self.assertTrue(do_keep(story, paper.one, [*told, (pace, row)]))
            self.assertTrue(any(do_keep(story, paper.other, reports) for reports in contraries))

    def test_random_rows(self):
        source = random.Random(110)
        seen = {}
        for story in some_stories():
            if held(story):
                for _ in range(4):
                    pace = story.pace_of(source.choice(story.travellers)) if story.travellers and source.random() < 0.6 else random_pace(source, story.axes)
                    row = Row(random_span(source, story.names), source.choice(KINDS))
                    paper = sure_row(story, pace, row)
                    self.is_told_right(story, pace, row, paper)
                    seen[paper.word, row.kind] = seen.get((paper.word, row.kind), 0) + 1
        self.assertEqual(len(seen), 9)

    def test_what_is_reported_is_sure_and_its_contraries_are_against(self):
        for story in some_stories():
            if held(story):
                for pace, row in told_of(story):
                    paper = sure_row(story, pace, row)
                    self.assertEqual(paper.word, "sure")
                    self.is_told_right(story, pace, row, paper)
                    for contrary in row.contraries():
                        self.assertEqual(sure_row(story, pace, contrary).word, "against")

    def test_more_reports_leave_what_is_sure(self):
        source = random.Random(111)
        seen = set()
        for story in some_stories():
            many = len(story.reports)
            if many and held(story):
                for pace, row in told_of(story):
                    less = sure_row(story.without(source.randrange(many)), pace, row).word
                    seen.add(less)
                    self.assertIn(less, ("sure", "unsure"))
        self.assertEqual(seen, {"sure", "unsure"})

    def test_no_late_row_is_sure_without_late_reports(self):
        source = random.Random(112)
        for axes in (1, 2, 3):
            for _ in range(15):
                story = random_story(source, axes, kinds=(">=", "="))
                for _ in range(4):
                    row = Row(random_span(source, story.names), ">")
                    self.assertNotEqual(sure_row(story, random_pace(source, axes), row).word, "sure")

    def test_carried_paces_leave_each_row(self):
        source = random.Random(113)
        for axes in (1, 2, 3):
            for _ in range(12):
                story = random_story(source, axes)
                carried = Story(axes, story.names, {name: carried_pace(story.pace_of(name), 3, axes - 1) for name in story.travellers}, story.reports)
                self.assertEqual(held(carried).word, held(story).word)
                if held(story):
                    pace, row = random_pace(source, axes), Row(random_span(source, story.names), source.choice(KINDS))
                    self.assertEqual(sure_row(carried, carried_pace(pace, 3, axes - 1), row).word, sure_row(story, pace, row).word)

    def test_by_hand(self):
        late, early = Row.ahead("a", "b"), Row.ahead("b", "a")
        for part, row, due in ((Ratio(1, 4), late, "sure"), (Ratio(3, 4), late, "unsure"), (Ratio(0), early, "against"), (Ratio(1, 4), Row.level("a", "b"), "against"),
                               (Ratio(-1, 9), late, "unsure"), (HALF, Row(GAP, ">="), "sure")):
            paper = sure_row(row=row, pace=Pace([part]), story=TOLD)
            self.assertEqual(paper.word, due)
            self.is_told_right(TOLD, Pace([part]), row, paper)
        level = Story(1, ["a", "b"], PACES, [("rest", Row.level("a", "b")), ("fast", Row.level("a", "b"))])
        paper = sure_row(level, Pace([Ratio(1, 4)]), Row.level("a", "b"))
        self.assertEqual((paper.word, len(paper.weights)), ("sure", 2))
        self.is_told_right(level, Pace([Ratio(1, 4)]), Row.level("a", "b"), paper)

    def test_level_rows_that_are_sure(self):
        # Late or level at both ends and at rest early or level: level at rest, as between, if a late report bars nothing.
        far = {"rest": Pace([0]), "left": Pace([-HALF]), "right": Pace([HALF])}
        story = Story(1, ["a", "b"], far, [("left", Row(GAP, ">=")), ("right", Row(GAP, ">=")), ("rest", Row(-GAP, ">="))])
        paper = sure_row(story, Pace([0]), Row(GAP, "="))
        self.assertEqual((paper.word, len(paper.weights)), ("sure", 2))
        self.is_told_right(story, Pace([0]), Row(GAP, "="), paper)
        for word, row in (("sure", Row(Span({}), "=")), ("sure", Row(Span({}), ">=")), ("against", Row(Span({}), ">"))):
            paper = sure_row(story, Pace([0]), row)
            self.assertEqual(paper.word, word)
            self.is_told_right(story, Pace([0]), row, paper)

    def test_stories_that_do_not_hold(self):
        for call in (lambda story: sure_row(story, Pace([0]), Row.ahead("a", "b")), lambda story: sure_paces(story, GAP)):
            self.refuses(Impossible(held(MORE)), call, MORE)
        full = Story(1, ["a", "b"], PACES, [("rest", Row.ahead("a", "b"))] * 12)
        self.assertEqual(sure_row(full, Pace([0]), Row.ahead("a", "b")).word, "sure")

    def test_wrong_values(self):
        strange = Row.ahead("z", "y")
        self.refuses_each(BadStory("story"), lambda value: sure_row(value, None, None), no_values())
        self.refuses_each(BadPace("pace"), lambda value: sure_row(MORE, value, None), no_values())
        self.refuses_each(BadRow("row"), lambda value: sure_row(MORE, Pace([0, 0]), value), [*no_values(), AnyRow(), OwnRow("x"), GAP])
        self.refuses(Unlike("axes"), sure_row, MORE, Pace([0, 0]), strange)
        self.refuses(NoHappening("y"), sure_row, MORE, Pace([0]), strange)
        self.refuses(Impossible(held(MORE)), sure_row, MORE, Pace([0]), Row.ahead("a", "b"))

    def test_papers(self):
        sure, against, unsure = Sure(weights=[[1]]), Against(weights=[1]), Unsure(other=[2], one=[1])
        self.assertEqual([sure.word, against.word, unsure.word, bool(sure), bool(against), bool(unsure)], ["sure", "against", "unsure", True, False, True])
        self.assertEqual([sure.weights, against.weights, unsure.one, unsure.other, unsure.parts], [((1,),), (1,), (1,), (2,), ((1,), (2,))])
        struck, stretch = Struck(papers=[[1]], spots=[], numbers=[0]), Stretch(is_high_in=False, is_low_in=True, high=1, low=0)
        self.assertEqual([struck.word, struck.numbers, struck.spots, struck.papers, struck.parts, bool(struck)], ["struck", (0,), (), ((1,),), ((0,), (), ((1,),)), True])
        self.assertEqual([stretch.word, stretch.low, stretch.high, stretch.is_low_in, stretch.is_high_in, stretch.parts, bool(stretch)],
                         ["stretch", 0, 1, True, False, (0, 1, True, False), True])
        self.differs(sure, [against, Paper("sure", [[1]])])
        self.differs(against, [sure, Denial("against", [1]), Against([2])])


class Paces(Case):

    def is_told_right(self, story, span):
        stretch = sure_paces(story, span)
        parts = [Ratio(at, 12) for at in range(-11, 12)] + [Ratio(1) - NEAR, NEAR - 1] + [story.pace_of(name).parts[0] for name in story.travellers]
        if stretch is not None:
            self.assertIs(type(stretch), Stretch)
            self.are_all_ratios((stretch.low, stretch.high))
            self.assertEqual([type(stretch.is_low_in), type(stretch.is_high_in)], [bool, bool])
            self.assertFalse(stretch.high.is_below(stretch.low) or stretch.low.is_below(-1) or Ratio(1).is_below(stretch.high))
            if stretch.low == stretch.high:
                self.assertEqual((stretch.is_low_in, stretch.is_high_in), (True, True))
            for end, inside in ((stretch.low, stretch.is_low_in), (stretch.high, stretch.is_high_in)):
                self.assertFalse(inside and abs(end) == 1)
                parts += [end, end - NEAR, end + NEAR]
            parts.append((stretch.low + stretch.high) * HALF)
        for part in parts:
            if abs(part).is_below(1):
                self.assertEqual(sure_row(story, Pace([part]), Row(span, ">")).word == "sure", is_in(stretch, part), (str(span), part))
        return stretch

    def test_random_stories(self):
        source = random.Random(114)
        seen = {}
        for names, reports in ((2, 2), (2, 3), (3, 3), (3, 5), (4, 5), (4, 6)) * 9:
            story = random_story(source, 1, names, reports, (">", ">=", ">", "="))
            if held(story):
                for span in (random_span(source, story.names), random_span(source, story.names)):
                    stretch = self.is_told_right(story, span)
                    mark = stretch and (stretch.is_low_in, stretch.is_high_in, stretch.low == stretch.high)
                    seen[mark] = seen.get(mark, 0) + 1
        self.assertTrue({None, (True, True, False), (False, False, False), (True, True, True)} <= set(seen))

    def test_by_hand(self):
        self.assertEqual(sure_paces(span=GAP, story=TOLD), Stretch(0, HALF, True, True))
        self.assertIs(sure_paces(TOLD, -GAP), None)
        self.assertIs(sure_paces(TOLD, Span({})), None)
        one = Story(1, ["a", "b"], PACES, [("fast", Row.ahead("a", "b"))])
        self.assertEqual(sure_paces(one, GAP), Stretch(HALF, HALF, True, True))
        for kind in (">=", "="):
            self.assertIs(sure_paces(Story(1, ["a", "b"], PACES, [("fast", Row(GAP, kind))]), GAP), None)
        # Level at rest, late at 1/2: late at all paces above 0, up to light.
        ends = Story(1, ["a", "b"], PACES, [("rest", Row.level("a", "b")), ("fast", Row.ahead("a", "b"))])
        self.assertEqual(sure_paces(ends, GAP), Stretch(0, 1, False, False))
        self.assertEqual(sure_paces(ends, -GAP), Stretch(-1, 0, False, False))
        # Level at rest, late or level at 1/2: nothing is late for sure.
        self.assertIs(sure_paces(Story(1, ["a", "b"], PACES, [("rest", Row.level("a", "b")), ("fast", Row(GAP, ">="))]), GAP), None)
        # Late or level at one end, late at the other one.
        self.assertEqual(sure_paces(Story(1, ["a", "b"], PACES, [("rest", Row(GAP, ">=")), ("fast", Row.ahead("a", "b"))]), GAP), Stretch(0, HALF, False, True))
        self.assertEqual(sure_paces(Story(1, ["a", "b"], PACES, [("rest", Row.ahead("a", "b")), ("fast", Row(GAP, ">="))]), GAP), Stretch(0, HALF, True, False))
        # Late at rest, level at 1/2: late at all paces below 1/2.
        turned = Story(1, ["a", "b"], PACES, [("rest", Row.ahead("a", "b")), ("fast", Row.level("a", "b"))])
        self.assertEqual([sure_paces(turned, GAP), sure_paces(turned, -GAP)], [Stretch(-1, HALF, False, False), Stretch(HALF, 1, False, False)])

    def test_paces_beyond_light_are_none(self):
        # The spans of the reports make the span asked only with a pace that is no traveller's.
        far = {"left": Pace([Ratio(-9, 10)]), "right": Pace([Ratio(9, 10)])}
        story = Story(1, ["a", "b", "c"], far, [("left", Row.level("b", "a")), ("right", Row.ahead("b", "c")), ("left", Row.level("b", "c"))])
        for span in (Span.between("a", "c"), Span.between("a", "b"), Span.between("b", "c"), Span.between("a", "c") + Span.between("b", "c")):
            self.is_told_right(story, span)
            self.is_told_right(story, -span)
        both = Story(1, ["a", "b"], far, [("left", Row.level("a", "b")), ("right", Row.ahead("a", "b"))])
        self.assertEqual(sure_paces(both, GAP), Stretch(Ratio(-9, 10), 1, False, False))

    def test_an_end_beyond_light_is_lights(self):
        """Here weights make the span asked with the pace -13/9, too, so late for sure is all from light's pace to -1/3."""
        rows = [("one", Row(Span({"a": -1, "b": -1, "c": 2}), "=")), ("two", Row.ahead("b", "c")), ("three", Row.level("a", "c")), ("three", Row.ahead("a", "b"))]
        for side, due in ((1, (-1, Ratio(-1, 3), False, True)), (-1, (Ratio(1, 3), 1, True, False))):
            paces = {name: Pace([part * side]) for name, part in (("one", Ratio(-1, 9)), ("two", Ratio(2, 9)), ("three", Ratio(-1, 3)))}
            story = Story(1, ["a", "b", "c"], paces, rows)
            self.assertEqual(self.is_told_right(story, GAP).parts, due)

    def test_no_reports_no_travellers_one_name(self):
        self.assertIs(sure_paces(Story(1, ["a", "b"], {}, []), GAP), None)
        self.assertIs(sure_paces(Story(1, ["a"], PACES, []), Span({})), None)
        self.assertIs(sure_paces(Story(1, ["a", "b", "c"], PACES, TOLD.reports), Span.between("a", "c")), None)

    def test_wrong_values(self):
        plane = Story(2, ["a", "b"], {}, [])
        self.refuses_each(BadStory("story"), lambda value: sure_paces(value, None), no_values())
        self.refuses_each(BadSpan("span"), lambda value: sure_paces(plane, value), no_values())
        self.refuses(Unlike("road"), sure_paces, plane, Span.between("a", "z"))
        self.refuses(NoHappening("y"), sure_paces, MORE, Span.between("z", "y"))
        self.refuses(Impossible(held(MORE)), sure_paces, MORE, Span({}))


class Strikes(Case):

    def is_told_right(self, story, paper):
        self.assertIs(type(paper), Struck)
        told = told_of(story)
        sets = [numbers for many in range(len(told) + 1) for numbers in combinations(range(len(told)), many)]
        at = sets.index(paper.numbers)
        self.assertTrue(do_keep(story, paper.spots, [report for number, report in enumerate(told) if number not in paper.numbers]))
        self.assertEqual(len(paper.papers), at)
        for numbers, weights in zip(sets, paper.papers):
            self.assertTrue(weights_mix(story, weights, [report for number, report in enumerate(told) if number not in numbers]))

    def test_random_stories(self):
        source = random.Random(115)
        seen = set()
        for axes, names, reports in [(1, 2, 6), (1, 3, 6), (2, 3, 6), (2, 2, 5), (3, 2, 6), (3, 4, 6), (1, 1, 4)] * 8:
            story = random_story(source, axes, names, reports)
            paper = fewest_struck(story)
            self.is_told_right(story, paper)
            seen.add(len(paper.numbers))
        self.assertTrue({0, 1, 2, 3} <= seen)

    def test_by_hand(self):
        paper = fewest_struck(story=MORE)
        self.assertEqual((paper.numbers, len(paper.papers)), ((1,), 2))
        self.is_told_right(MORE, paper)
        self.assertEqual((fewest_struck(TOLD).numbers, fewest_struck(TOLD).papers), ((), ()))
        nothing = Story(1, ["a"], PACES, [("rest", Row(Span({}), ">"))] * 6)
        paper = fewest_struck(nothing)
        self.assertEqual((paper.numbers, len(paper.papers)), ((0, 1, 2, 3, 4, 5), 63))
        self.is_told_right(nothing, paper)
        self.assertEqual(fewest_struck(Story(3, ["a", "b"], {}, [])).numbers, ())

    def test_6_and_7_reports(self):
        six = Story(1, ["a", "b"], PACES, [("rest", Row.ahead("a", "b"))] * 6)
        self.assertEqual(fewest_struck(six).numbers, ())
        self.refuses(TooMany("reports", 6), fewest_struck, six.with_report("rest", Row.ahead("a", "b")))
        self.refuses_each(BadStory("story"), fewest_struck, no_values())

    def test_equal_calls_have_equal_answers(self):
        for story in some_stories():
            again = Story(story.axes, story.names[::-1], {name: story.pace_of(name) for name in story.travellers[::-1]}, [list(report) for report in story.reports])
            self.assertEqual(fewest_struck(again), fewest_struck(story))
            if held(story):
                row = Row.ahead(story.names[0], story.names[-1])
                self.assertEqual(sure_row(again, Pace.rest(story.axes), row), sure_row(story, Pace.rest(story.axes), row))
                if story.axes == 1:
                    self.assertEqual(sure_paces(again, row.span), sure_paces(story, row.span))
