"""The names, the parameters and the places of all that the interface lists; arguments by place and by name."""

import importlib
import inspect
import unittest

LISTED = {
    "checks": {"is_integer": "value", "is_within": "value least most", "is_name": "value", "is_listed": "value", "are_names": "value",
               "first_twice": "values"},
    "ratios": {"Ratio": "top bottom=1", "Ratio.read": "text", "Ratio.of": "value", "Ratio.over": "self other", "Ratio.is_below": "self other",
               "Ratio.__add__": None, "Ratio.__sub__": None, "Ratio.__mul__": None, "Ratio.__neg__": None, "Ratio.__abs__": None,
               "Ratio.__bool__": None, "Ratio.__eq__": None, "Ratio.__str__": None, "Ratio.__repr__": None,
               "is_ratio": "value", "are_ratios": "value", "summed": "ratios", "greatest_of": "ratios", "least_of": "ratios"},
    "papers": {"Paper": "word *parts", "Paper.__eq__": None, "Denial": "word *parts", "Denial.__eq__": None, "fixed": "value"},
    "steps": {"Step": "time place", "Step.nothing": "axes", "Step.read": "text", "Step.__add__": None, "Step.__sub__": None,
              "Step.__mul__": None, "Step.__neg__": None, "Step.__eq__": None, "Step.__str__": None, "product_of": "one other"},
    "spans": {"Span": "terms", "Span.between": "one other", "Span.read": "text", "Span.number_of": "self name", "Span.__add__": None,
              "Span.__sub__": None, "Span.__mul__": None, "Span.__neg__": None, "Span.__eq__": None, "Span.__str__": None},
    "books": {"Book": "axes spots", "Book.__len__": None, "Book.__iter__": None, "Book.__contains__": None, "Book.__eq__": None,
              "Book.__str__": None, "Book.read": "text", "Book.spot_of": "self name", "Book.step_of": "self span",
              "Book.with_happening": "self name time place", "Book.kept": "self names", "Book.renamed": "self names"},
    "moved": {"moved_book": "book step", "mirrored_book": "book axis", "time_turned": "book", "turned_book": "book one other ratio",
              "enlarged_book": "book times"},
    "telling": {"kind_between": "book one other", "does_reach": "book one other", "reached_pairs": "book", "apart_pairs": "book"},
    "chains": {"Messengers": "chains crowd", "LongChain": "chain crowds", "fewest_messengers": "book", "longest_chain": "book"},
    "check_telling": {"shows_messengers": "book value", "shows_longest": "book value"},
    "news": {"light_right": "book name", "light_left": "book name", "right_order": "book", "left_order": "book", "meet_of": "book names",
             "first_news": "book names", "last_call": "book names", "left_to_right": "book names", "spot_of_lights": "right left"},
    "paces": {"Pace": "parts", "Pace.rest": "axes", "Pace.of_beats": "ratio axes axis", "Pace.read": "text", "Pace.mixed": "self other share",
              "Pace.__neg__": None, "Pace.__eq__": None, "Pace.__str__": None},
    "called": {"called_worth": "book pace span", "called_sign": "book pace span", "called_order": "book pace",
               "called_quotient": "book pace one other"},
    "carried": {"carried_book": "book ratio axis", "carried_pace": "pace ratio axis", "mirrored_pace": "pace axis",
                "turned_pace": "pace one other ratio"},
    "rows": {"AnyRow": "", "Row": "span kind", "Row.ahead": "one other", "Row.level": "one other", "Row.read": "text",
             "Row.contraries": "self", "Row.__eq__": None, "Row.__str__": None},
    "callers": {"Somebody": "pace", "Nobody": "weights", "keeps_rows": "book pace rows", "find_caller": "book rows",
                "weighted_step": "book rows weights", "order_rows": "order"},
    "clashes": {"Clash": "numbers weights paces", "least_clash": "book rows", "all_clashes": "book rows"},
    "check_callers": {"shows_caller": "book rows value", "shows_clash": "book rows value"},
    "sayings": {"Saying": "parts", "Saying.read": "text", "Saying.__len__": None, "Saying.__eq__": None, "Saying.__str__": None,
                "Saying.__and__": "self other", "Saying.__or__": "self other", "Saying.__invert__": "self", "yes": "", "no": "", "of_row": "row",
                "all_of": "*sayings", "any_of": "*sayings", "least_of": "many *sayings"},
    "ready_sayings": {"ahead_of": "one other", "level_with": "one other", "first_among": "name names", "last_among": "name names",
                      "lies_between": "name one other", "lasts_longer": "one other third fourth times=1"},
    "words": {"Always": "tree", "Open": "one other", "Never": "tree", "truth_at": "book saying pace", "word_of": "book saying given=()"},
    "check_words": {"shows_word": "book saying given value"},
    "flats": {"Flat": "pairs number pace", "flats_of": "book", "orders_count": "book"},
    "orders": {"Called": "order pace", "called_orders": "book", "caller_of": "book order"},
    "turns": {"turned_pairs": "one other", "is_between": "one other third", "way_between": "book one other"},
    "records": {"Records": "paces tree", "reach_read": "orders", "fewest_records": "book"},
    "check_orders": {"shows_flat": "book value", "shows_called": "book value", "shows_order": "book order value", "shows_records": "book value"},
    "riders": {"Rider": "pace stand", "Rider.of_line": "p q", "Rider.read": "text", "Rider.__eq__": None, "Rider.__str__": None,
               "rider_mark": "book rider name", "rider_side": "book rider name", "rider_sight": "book rider name", "seen_order_of": "book rider",
               "called_order_of": "book rider"},
    "rider_rows": {"RiderRow": "called seen kind", "RiderRow.read": "text", "RiderRow.__eq__": None, "RiderRow.__str__": None, "SideRow": "name side",
                   "SideRow.read": "text", "SideRow.__eq__": None, "SideRow.__str__": None, "rider_sign": "book rider row", "seen_ahead": "one other",
                   "seen_with": "one other", "seen_first": "name names", "seen_last": "name names", "looks_longer": "one other times=1",
                   "seen_longer": "one other third fourth times=1", "lies_left": "name", "goes_through": "name", "lies_right": "name"},
    "rider_words": {"rider_truth": "book saying rider", "rider_word": "book saying given=()"},
    "check_riders": {"shows_rider_word": "book saying given value"},
    "stories": {"Story": "axes names travellers reports", "Story.pace_of": "self name", "Story.with_report": "self traveller row",
                "Story.without": "self number", "Story.__eq__": None, "Held": "spots", "Mixed": "weights", "held": "story"},
    "sure": {"Sure": "weights", "Unsure": "one other", "Struck": "numbers spots papers", "Stretch": "low high is_low_in is_high_in", "Against": "weights",
             "sure_row": "story pace row", "sure_paces": "story span", "fewest_struck": "story"},
    "check_stories": {"shows_held": "story value", "shows_sure": "story pace row value", "shows_struck": "story value"},
    "tables": {"Table": "names pairs", "Table.read": "text", "Table.of": "book", "Table.__eq__": None, "Table.__str__": None, "apart_in": "table",
               "is_order": "table", "sides_with": "table left right"},
    "placed": {"Placed": "book", "NoOrder": "one middle other", "Ring": "pairs", "placed": "table", "pattern_of": "book", "placed_as": "table pattern"},
    "parts": {"turned_parts": "table", "patterns_count": "table", "all_patterns": "table", "bond_of": "table one other third fourth"},
    "check_tables": {"shows_placed": "table value"},
    "weaves": {"Weave": "moves", "Weave.read": "text", "Weave.__eq__": None, "Weave.__str__": None, "lights_passed": "book", "fits_weave": "book weave",
               "woven_order": "book weave"},
    "eyes": {"Eye": "corners", "Eye.__eq__": None, "eye_place": "eye time", "sight_of": "book eye name", "seen_by": "book eye", "weave_of": "book eye",
             "eye_of": "book weave"},
    "seen": {"SeenBy": "weave", "Unseen": "states", "find_eye": "book order"},
    "brought": {"brought_by": "book names", "least_bringing": "book names", "bringers_of": "book name"},
    "seen_counts": {"seen_count": "book", "seen_number": "book number", "number_seen": "book order"},
    "resting": {"resting_order": "book place", "resting_orders": "book"},
    "eye_words": {"SeenRow": "one other kind", "SeenRow.read": "text", "SeenRow.__eq__": None, "SeenRow.__str__": None, "sees_ahead": "one other",
                  "sees_with": "one other", "sees_first": "name names", "sees_last": "name names", "truth_in": "order saying",
                  "eye_word": "book saying begun=()"},
    "check_eyes": {"shows_seen": "book order value", "shows_eye_word": "book saying begun value"},
    "passers": {"Passers": "paces who apart", "stretch_of": "book rows", "fewest_passers": "book accounts"},
    "check_passers": {"shows_passers": "book accounts value"},
    "clocks": {"Tour": "parts", "Tour.joined": "self other", "Tour.read": "text", "Tour.__eq__": None, "Tour.__str__": None, "straight_square": "tour",
               "spot_at": "tour age", "age_of_news": "tour step"},
    "beats": {"beats_right": "k other beats", "beats_left": "k other beats", "echo_beats": "k other beats", "middle_beats": "k other beats"},
    "desk": {"Desk": "book lines=()", "Desk.tell": "self line", "Desk.run": "self lines", "Desk.back": "self", "Desk.told_lines": "self",
             "Desk.kept_names": "self", "Desk.saying_of": "self name", "Desk.__eq__": None},
}
BELOW = {("papers", "Denial"): ("papers", "Paper"), ("chains", "Messengers"): ("papers", "Paper"), ("chains", "LongChain"): ("papers", "Paper"),
         ("eye_words", "SeenRow"): ("rows", "AnyRow"), ("rows", "Row"): ("rows", "AnyRow"), ("rider_rows", "RiderRow"): ("rows", "AnyRow"), ("rider_rows", "SideRow"): ("rows", "AnyRow"),
         **{(file, name): ("papers", "Denial") for file, name in (("callers", "Nobody"), ("clashes", "Clash"), ("words", "Never"), ("stories", "Mixed"),
                                                                  ("sure", "Against"), ("placed", "NoOrder"), ("placed", "Ring"), ("seen", "Unseen"))},
         **{(file, name): ("papers", "Paper") for file, name in (
             ("callers", "Somebody"), ("words", "Always"), ("words", "Open"), ("flats", "Flat"), ("orders", "Called"), ("records", "Records"),
             ("stories", "Held"), ("sure", "Sure"), ("sure", "Unsure"), ("sure", "Struck"), ("sure", "Stretch"), ("placed", "Placed"), ("seen", "SeenBy"),
             ("passers", "Passers"))}}


def module_of(name):
    return importlib.import_module(f"whosefirst.{name}")


def parameters_of(value):
    shown = []
    for parameter in inspect.signature(value).parameters.values():
        star = "*" if parameter.kind == parameter.VAR_POSITIONAL else ""
        default = "" if parameter.default is parameter.empty else f"={parameter.default!r}"
        shown.append(f"{star}{parameter.name}{default}")
        if not star and parameter.kind != parameter.POSITIONAL_OR_KEYWORD:
            shown.append("!")
    return " ".join(shown)


class Interface(unittest.TestCase):

    def test_all_is_defined_where_it_is_listed(self):
        for file, names in LISTED.items():
            module = module_of(file)
            for name in names:
                with self.subTest(file=file, name=name):
                    owner, _, method = name.partition(".")
                    value = vars(module)[owner]
                    self.assertEqual(value.__module__, f"whosefirst.{file}")
                    if method:
                        self.assertIn(method, vars(value))

    def test_parameters(self):
        for file, names in LISTED.items():
            for name, due in names.items():
                if due is not None:
                    with self.subTest(file=file, name=name):
                        owner, _, method = name.partition(".")
                        value = vars(module_of(file))[owner]
                        self.assertEqual(parameters_of(getattr(value, method) if method else value), due)

    def test_classes_stand_directly_below_those_told(self):
        for (file, name), (above_file, above) in BELOW.items():
            self.assertEqual(vars(module_of(file))[name].__bases__, (vars(module_of(above_file))[above],))

    def test_read_needs_no_object(self):
        for file, names in LISTED.items():
            for name in names:
                owner, _, method = name.partition(".")
                if method in ("read", "of", "nothing", "between", "rest", "of_beats", "of_line", "ahead", "level"):
                    kept = vars(vars(module_of(file))[owner])[method]
                    self.assertIsInstance(kept, (staticmethod, classmethod))
