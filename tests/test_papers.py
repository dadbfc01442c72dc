"""Point 3 and whosefirst/papers.py."""

from helpers import Case, odd_values
from whosefirst.papers import Denial, Paper, fixed
from whosefirst.ratios import Ratio
from whosefirst.steps import Step


class Note(Paper):
    pass


class Other(Paper):
    pass


class Papers(Case):

    def test_papers_are_true_denials_false(self):
        self.assertIs(bool(Paper("note")), True)
        self.assertIs(bool(Paper("no", 0, False)), True)
        self.assertIs(bool(Denial("no")), False)
        self.assertIs(bool(Denial("yes", 1)), False)
        self.assertTrue(issubclass(Denial, Paper))
        self.assertTrue(bool(Note("note")))

    def test_word_and_parts(self):
        note = Paper("note", 1, [2, [3]], None)
        self.assertEqual((note.word, note.parts), ("note", (1, (2, (3,)), None)))
        self.assertEqual(Paper("note").parts, ())
        self.assertIs(type(Paper("note").parts), tuple)
        self.assertEqual(Paper(word="note").word, "note")
        self.assertEqual(Denial("no", [1], {"b": 1}).parts, ((1,), (("b", 1),)))
        self.assertEqual(Denial("no").word, "no")

    def test_any_values_as_parts(self):
        for value in odd_values():
            for made in (Paper("x", value), Denial("x", value)):
                self.assertIs(made.parts[0], value)

    def test_equal_papers(self):
        for kind in (Paper, Denial):
            self.assertTrue(kind("a", [1, {"k": [2]}]) == kind("a", (1, (("k", (2,)),))))
            self.assertTrue(kind("a", 1, Step(0, [1])) == kind("a", Ratio(1), Step(0, (1,))))
            self.assertFalse(kind("a", 1) != kind("a", 1))
            self.assertTrue(kind("a", 1) == kind("a", True))
            self.differs(kind("a", 1), [kind("b", 1), kind("a", 2), kind("a"), kind("a", 1, 1), kind("a", [1]), "a", ("a", 1), None])

    def test_papers_of_unlike_classes_differ(self):
        self.differs(Paper("a", 1), [Denial("a", 1), Note("a", 1)])
        self.differs(Note("a", 1), [Other("a", 1), Paper("a", 1)])
        self.differs(Denial("a"), [Paper("a")])
        self.assertTrue(Note("a", 1) == Note("a", 1))
        self.differs(Paper("a"), odd_values())

    def test_what_is_passed_is_copied(self):
        part, table = [1, [2]], {"a": [1]}
        note = Paper("note", part, table)
        part[1].append(3)
        part.append(4)
        table["a"].append(2)
        table["b"] = 1
        self.assertEqual(note.parts, ((1, (2,)), (("a", (1,)),)))

    def test_fixed_lists(self):
        self.assertEqual(fixed([]), ())
        self.assertEqual(fixed(value=[1, (2, [3, {}]), "ab"]), (1, (2, (3, ())), "ab"))
        self.assertEqual(fixed(([[[[]]]],)), ((((((),),),),)))
        deep = 5
        for _ in range(60):
            deep = [deep]
        for _ in range(60):
            self.assertIs(type(fixed(deep)), tuple)
            deep = deep[0]

    def test_fixed_dicts(self):
        self.assertEqual(fixed({}), ())
        self.assertEqual(fixed({"b": [2], "a": {"d": 1, "c": [0]}}), (("a", (("c", (0,)), ("d", 1))), ("b", (2,))))
        self.assertEqual(fixed({10: 1, 9: 2, -1: 3}), ((-1, 3), (9, 2), (10, 1)))
        self.assertEqual(fixed({"a": 0, "B": 1, "aa": 2, "": 3}), (("", 3), ("B", 1), ("a", 0), ("aa", 2)))
        self.assertEqual(fixed({b"b": 1, b"a": 2}), ((b"a", 2), (b"b", 1)))
        self.assertEqual(fixed({("b", 1): [1], ("a", 2): 2, ("a", 1): 3, ("a",): 4}), ((("a",), 4), (("a", 1), 3), (("a", 2), 2), (("b", 1), (1,))))
        self.assertEqual(fixed({None: [1]}), ((None, (1,)),))
        self.assertEqual(fixed([{1: {2: [3]}}]), (((1, ((2, (3,)),)),),))

    def test_dicts_with_keys_of_unlike_kinds_stay(self):
        for value in ({1: 2, "a": 3}, {"a": 1, b"a": 2}, {None: 1, 2: 3}, {(1,): 1, ("a",): 2}, {(1, 2): 0, 3: 1}, {(1, 2): 0, (2, "a"): 0, (1, "b"): 0},
                      {((1,), 2): 0, (("a",), 2): 1}):
            self.assertEqual(fixed(value), value)

    def test_other_values_stay(self):
        for value in [*odd_values(), 0, "a", "ab", Ratio(1, 2), Step(0, [1]), Paper("a")]:
            self.assertIs(fixed(value), value)
            self.assertIs(fixed([value])[0], value)
