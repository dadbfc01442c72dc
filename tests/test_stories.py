"""Point 18, whosefirst/stories.py."""

import random

from helpers import Case, no_integers, no_lists, no_names, no_values
from own import KINDS, random_span, sign_of
from own_stories import do_keep, do_mix, spot_worth, told_of
from test_sayings import OwnRow
from whosefirst.errors import BadNumber, BadRow, BadStory, NoHappening, NoTraveller, TooMany, Twice, Unlike
from whosefirst.paces import Pace
from whosefirst.papers import Denial, Paper
from whosefirst.ratios import Ratio
from whosefirst.rows import AnyRow, Row
from whosefirst.spans import Span
from whosefirst.steps import Step
from whosefirst.stories import Held, Mixed, Story, held

HALF = Ratio(1, 2)
PACES = {"rest": Pace([0]), "fast": Pace([HALF])}
TOLD = Story(1, ["b", "a"], PACES, [("rest", Row.ahead("a", "b")), ("fast", Row.ahead("a", "b"))])
MORE = TOLD.with_report("fast", Row.ahead("b", "a"))
GAP = Span.between("a", "b")


def weights_mix(story, weights, told):
    """Whether Ratios are weights that mix pairs of a pace and a row."""
    return do_mix(story, weights, told) and all(type(weight) is Ratio for weight in weights)


def random_pace(source, axes):
    return Pace([Ratio(source.randint(-5, 5), 9) for _ in range(axes)])


def random_story(source, axes, names=None, reports=None, kinds=KINDS):
    names = list("abcd"[:names or source.randint(2, 4)])
    travellers = {f"t{at}": random_pace(source, axes) for at in range(source.randint(1, 6))}
    many = source.randint(0, 6) if reports is None else reports
    return Story(axes, names, travellers, [(source.choice(list(travellers)), Row(random_span(source, names), source.choice(kinds))) for _ in range(many)])


def some_stories():
    source = random.Random(100)
    return [random_story(source, axes) for axes in (1, 2, 3) for _ in range(60)] + [TOLD, MORE]


class Stories(Case):

    def test_attributes(self):
        story = Story(reports=[["fast", Row.level("b", "a")]], travellers={"rest": PACES["rest"], "fast": PACES["fast"]}, names=("b", "a"), axes=1)
        self.assertEqual((story.axes, story.names, story.travellers, story.reports), (1, ("a", "b"), ("fast", "rest"), (("fast", Row.level("b", "a")),)))
        self.assertEqual([type(story.names), type(story.travellers), type(story.reports), type(story.reports[0])], [tuple] * 4)
        self.assertEqual([story.pace_of("fast"), story.pace_of(name="rest")], [Pace([HALF]), Pace([0])])
        empty = Story(3, ["a"], {}, [])
        self.assertEqual((empty.axes, empty.names, empty.travellers, empty.reports), (3, ("a",), (), ()))

    def test_what_is_passed_is_copied(self):
        names, travellers, reports = ["a", "b"], dict(PACES), [["rest", Row.ahead("a", "b")]]
        story = Story(1, names, travellers, reports)
        again = Story(1, list(names), dict(travellers), [tuple(reports[0])])
        names.append("c")
        travellers["rest"] = travellers["late"] = Pace([Ratio(1, 9)])
        reports[0][0] = "fast"
        reports.clear()
        self.assertEqual(story, again)
        self.assertEqual(story.pace_of("rest"), Pace([0]))

    def test_equality(self):
        self.assertTrue(TOLD == Story(1, ("a", "b"), {"fast": Pace([HALF]), "rest": Pace([Ratio(0)])}, TOLD.reports))
        self.differs(TOLD, [MORE, Story(1, ["a", "b", "c"], PACES, TOLD.reports), Story(1, ["a", "b"], {**PACES, "more": Pace([0])}, TOLD.reports),
                            Story(1, ["a", "b"], {**PACES, "rest": Pace([HALF])}, TOLD.reports), Story(1, ["a", "b"], PACES, TOLD.reports[::-1]), *no_values()])
        self.differs(Story(1, ["a"], {}, []), [Story(2, ["a"], {}, []), Story(1, ["b"], {}, [])])

    def test_wrong_stories(self):
        self.refuses_each(BadStory("axes"), lambda value: Story(value, None, None, None), [*no_integers(), 0, 4, -1])
        self.refuses_each(BadStory("names"), lambda value: Story(1, value, None, None), [*no_lists(), [], ()])
        self.refuses_each(BadStory("names"), lambda value: Story(1, ["a", "a", value], None, None), no_names())
        self.refuses(Twice("b"), Story, 1, ["a", "b", "c", "b", "a"], None, None)
        self.refuses_each(BadStory("travellers"), lambda value: Story(1, ["a"], value, None), [value for value in no_values() if value is None or type(value) is not dict or value])
        self.refuses_each(BadStory("travellers"), lambda value: Story(1, ["a"], {"t": value}, None), no_values())
        for name in ("", "T", "1", 1, None, "a" * 13, ("a",)):
            self.refuses(BadStory("travellers"), Story, 1, ["a"], {"t": Pace([0]), name: Pace([0])}, None)
        self.refuses_each(BadStory("reports"), lambda value: Story(2, ["a"], PACES, value), no_lists())
        for report in ([], ["t"], ["t", Row.ahead("a", "b"), None], [Row.ahead("a", "b"), "t"], None, "ab", 0, Row.ahead("a", "b"), {"t": 1, "u": 2}):
            self.refuses(BadStory("reports"), Story, 2, ["a"], PACES, [("nobody", Row.ahead("a", "z")), report])
        for value in [*no_values(), AnyRow(), OwnRow("x"), GAP]:
            self.refuses(BadStory("reports"), Story, 2, ["a"], PACES, [("nobody", value)])

    def test_what_does_not_fit(self):
        strange = ("nobody", Row.ahead("y", "x"))
        self.refuses(Unlike("axes"), Story, 2, ["a"], PACES, [strange])
        self.refuses(Unlike("axes"), Story, 1, ["a"], {"t": Pace([0]), "u": Pace([0, 0])}, [strange])
        for value in [*no_values(), "fast ", "late", ["rest"]]:
            self.refuses(NoTraveller(value), Story, 1, ["a"], PACES, [("rest", Row.ahead("y", "x")), (value, Row.ahead("a", "a")), strange])
        self.refuses(NoHappening("w"), Story, 1, ["a"], PACES, [("rest", Row.ahead("y", "x")), ("fast", Row.ahead("z", "w"))])

    def test_4_and_5_names_6_and_7_travellers_12_and_13_reports(self):
        names, rest = list("abcde"), Pace([0])
        travellers = {f"t{at}": rest for at in range(7)}
        reports = [("t0", Row.ahead("a", "b"))] * 13
        six = {name: travellers[name] for name in list(travellers)[:6]}
        story = Story(1, names[:4], six, reports[:12])
        self.assertEqual((len(story.names), len(story.travellers), len(story.reports)), (4, 6, 12))
        self.refuses(TooMany("names", 4), Story, 1, names, travellers, reports)
        self.refuses(TooMany("travellers", 6), Story, 1, names[:4], travellers, reports)
        self.refuses(TooMany("reports", 12), Story, 1, names[:4], six, reports)
        self.refuses(NoHappening("z"), Story, 1, names, travellers, [*reports, ("t1", Row.ahead("z", "a"))])
        self.refuses(TooMany("reports", 12), story.with_report, "t1", Row.ahead("a", "b"))
        self.refuses(NoHappening("z"), story.with_report, "t1", Row.ahead("a", "z"))
        self.refuses(BadRow("row"), story.with_report, "t1", None)
        self.refuses(NoTraveller("t6"), story.with_report, "t6", None)
        self.assertEqual(len(story.without(11).with_report("t1", Row.ahead("a", "b")).reports), 12)

    def test_pace_of(self):
        for value in [*no_values(), "late", "Rest", ["rest"], ("rest",)]:
            self.refuses(NoTraveller(value), TOLD.pace_of, value)

    def test_with_report_and_without(self):
        self.assertEqual(MORE.reports, (*TOLD.reports, ("fast", Row.ahead("b", "a"))))
        self.assertEqual(TOLD.with_report(row=Row.ahead("b", "a"), traveller="fast"), MORE)
        self.assertEqual([MORE.without(2), MORE.without(number=0).reports], [TOLD, MORE.reports[1:]])
        self.assertEqual(len(TOLD.reports), 2)
        for value in [*no_values(), "late"]:
            self.refuses(NoTraveller(value), TOLD.with_report, value, None)
        for value in [*no_values(), AnyRow(), OwnRow("x"), GAP]:
            self.refuses(BadRow("row"), TOLD.with_report, "rest", value)
        self.refuses(NoHappening("x"), TOLD.with_report, "rest", Row.ahead("y", "x"))
        self.refuses_each(BadNumber("number"), MORE.without, [*no_integers(), 3, -1, 10 ** 9])
        self.refuses(BadNumber("number"), Story(1, ["a"], {}, []).without, 0)


class Holding(Case):

    def is_told_right(self, story, paper):
        if paper:
            self.assertIs(type(paper), Held)
            self.assertTrue(do_keep(story, paper.spots, told_of(story)))
        else:
            self.assertIs(type(paper), Mixed)
            self.assertTrue(weights_mix(story, paper.weights, told_of(story)))

    def test_random_stories(self):
        words = {}
        for story in some_stories():
            paper = held(story)
            self.is_told_right(story, paper)
            words[paper.word, story.axes] = words.get((paper.word, story.axes), 0) + 1
        self.assertEqual(len(words), 6)

    def test_stories_that_some_spots_keep(self):
        source = random.Random(101)
        for axes in (1, 2, 3):
            for _ in range(30):
                story = random_story(source, axes, reports=0)
                spots = tuple((name, Step(source.randint(-5, 5), [source.randint(-5, 5) for _ in range(axes)])) for name in story.names)
                for _ in range(6):
                    traveller, span = source.choice(story.travellers), random_span(source, story.names)
                    sign = sign_of(spot_worth(spots, story.pace_of(traveller), span))
                    kind = source.choice([">", ">=", ">"] if sign else [">=", "="])
                    story = story.with_report(traveller, Row(span * (sign or 1), kind))
                self.assertTrue(do_keep(story, spots, told_of(story)))
                self.assertTrue(held(story))
                self.is_told_right(story, held(story))

    def test_reports_that_are_mixed(self):
        """A contrary of what follows from some reports is put behind them: so the story does not hold."""
        source = random.Random(102)
        for axes in (1, 2, 3):
            for _ in range(30):
                names, pace = list("abcd"), random_pace(source, axes)
                parts = [random_pace(source, axes) for _ in range(2)]
                span = random_span(source, names)
                middle = Pace([(one + other) * HALF for one, other in zip(parts[0].parts, parts[1].parts)])
                # Who flies between two who call a span late calls it late.
                story = Story(axes, names, {"one": parts[0], "other": parts[1], "middle": middle, "more": pace},
                              [("one", Row(span, ">")), ("other", Row(span, ">=")), ("more", Row(Span({}), "=")), ("middle", Row(-span, ">="))])
                paper = held(story)
                self.assertEqual(paper.word, "mixed")
                self.is_told_right(story, paper)
                if not span.is_nothing:
                    self.assertTrue(held(story.without(0)))

    def test_two_names_at_one_time_and_place(self):
        """Without a report of the kind > all names at one spot keep a story."""
        source = random.Random(103)
        for axes in (1, 2, 3):
            for _ in range(10):
                story = random_story(source, axes, reports=12, kinds=(">=", "="))
                self.assertTrue(held(story))
                self.is_told_right(story, held(story))
        level = Story(1, ["a", "b"], PACES, [("rest", Row.level("a", "b")), ("fast", Row.level("a", "b"))])
        self.assertEqual(held(level).spots[0][1], held(level).spots[1][1])

    def test_no_travellers_no_reports_one_name(self):
        for axes in (1, 2, 3):
            for names in (["a"], list("abcd")):
                story = Story(axes, names, {}, [])
                self.is_told_right(story, held(story))
            rest = {"t": Pace([0] * axes)}
            for kind, due in ((">", "mixed"), (">=", "held"), ("=", "held")):
                story = Story(axes, ["a"], rest, [("t", Row(Span({}), kind))])
                self.assertEqual(held(story).word, due)
                self.is_told_right(story, held(story))

    def test_12_reports_of_4_names(self):
        source = random.Random(104)
        for axes in (1, 2, 3):
            for kinds in (KINDS, (">",), ("=",)):
                story = random_story(source, axes, names=4, reports=12, kinds=kinds)
                self.is_told_right(story, held(story))

    def test_by_hand(self):
        self.assertEqual([held(story=TOLD).word, held(MORE).word], ["held", "mixed"])
        back = Story(1, ["a", "b"], PACES, [("rest", Row.ahead("a", "b")), ("fast", Row.ahead("b", "a"))])
        self.assertTrue(held(back))
        circle = Story(2, ["a", "b", "c"], {"t": Pace([HALF, 0])}, [("t", Row.ahead(one, other)) for one, other in ("ab", "bc", "ca")])
        self.assertFalse(held(circle))
        self.is_told_right(circle, held(circle))
        far = {**PACES, "slow": Pace([Ratio(1, 4)])}
        # Ahead at both ends, not ahead between.
        between = Story(1, ["a", "b"], far, [("rest", Row.ahead("a", "b")), ("fast", Row.ahead("a", "b")), ("slow", Row(-GAP, ">="))])
        self.assertEqual(held(between).word, "mixed")
        self.is_told_right(between, held(between))

    def test_equal_calls_have_equal_answers(self):
        for story in some_stories():
            again = Story(story.axes, story.names[::-1], {name: Pace(list(story.pace_of(name).parts)) for name in story.travellers[::-1]},
                          [[traveller, Row.read(str(row))] for traveller, row in story.reports])
            self.assertEqual(held(again), held(story))

    def test_wrong_stories(self):
        self.refuses_each(BadStory("story"), held, no_values())

    def test_papers(self):
        some, mixed = Held(spots=[["a", 1]]), Mixed(weights=[1, [2]])
        self.assertEqual((some.word, some.parts, some.spots, bool(some)), ("held", ((("a", 1),),), (("a", 1),), True))
        self.assertEqual((mixed.word, mixed.parts, mixed.weights, bool(mixed)), ("mixed", ((1, (2,)),), (1, (2,)), False))
        self.differs(Held([]), [Mixed([]), Paper("held", [])])
        self.differs(Mixed([]), [Denial("mixed", []), Mixed([0])])
