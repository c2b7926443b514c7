import itertools

from helpers import Case

from pressalike.errors import BadRule
from pressalike.rules import VALUE_NAMES, Rule

VALUES = {
    "face": (0, 1), "measure": (1, 2, 3, 4, 5, 6), "space": (0, 1, 2),
    "kept": (False, True), "page": (False, True), "out": (False, True),
}
TEXTS = {"kind": "ABC", "mark": "xy", "parent": "ABC", "above": "xy", "elder": "ABC"}
NO_PATTERN = ("", "", "", "", "")


class TestMaking(Case):
    def wrong(self, call, *args, **named):
        self.check_error(BadRule, {"place": None}, call, *args, **named)

    def test_names(self):
        self.assertEqual(VALUE_NAMES, ("face", "measure", "space", "kept", "page", "out"))

    def test_examples(self):
        rule = Rule(3, kind="A", above="x", space=1)
        told = (rule("A", "", ("B", "xy", "", 0, 3, False)), rule("A", "x", ("B", "", "", 0, 3, False)))
        self.assertEqual(told, (True, False))
        made = Rule.made(2, ("", "y", "", "", ""), [("kept", True), ("face", 1)])
        self.assertEqual(made.settings, (('face', 1), ('kept', True)))

    def test_attributes(self):
        rule = Rule(9, elder="C", kind="A", above="y", mark="x", parent="B", out=True, face=0, page=False, measure=6)
        self.assertEqual((rule.weight, rule.pattern), (9, ("A", "x", "B", "y", "C")))
        self.assertEqual(rule.settings, (("face", 0), ("measure", 6), ("page", False), ("out", True)))
        self.assertEqual(Rule(0, space=0).pattern, NO_PATTERN)

    def test_weights(self):
        for weight in range(10):
            self.assertEqual(Rule(weight, space=1).weight, weight)
            self.assertEqual(Rule.made(weight, NO_PATTERN, [("space", 1)]).weight, weight)
        for weight in (-1, 10, True, False, None, "1", 1.0, 10 ** 20, [1]):
            self.wrong(Rule, weight, space=1)
            self.wrong(Rule.made, weight, NO_PATTERN, [("space", 1)])

    def test_texts(self):
        for at, name in enumerate(TEXTS):
            for text in ("",) + tuple(TEXTS[name]):
                pattern = NO_PATTERN[:at] + (text,) + NO_PATTERN[at + 1:]
                self.assertEqual(Rule(1, space=1, **{name: text}).pattern, pattern)
                self.assertEqual(Rule.made(1, list(pattern), [("space", 1)]).pattern, pattern)
            for text in ("D", "xy", "AB", "a", "X", " ", "z", None, 0, True, ["A"], ("x",), b"A"):
                self.wrong(Rule, 1, space=1, **{name: text})
                self.wrong(Rule.made, 1, NO_PATTERN[:at] + (text,) + NO_PATTERN[at + 1:], [("space", 1)])
        for name in ("mark", "above"):
            self.wrong(Rule, 1, space=1, **{name: "A"})
        for name in ("kind", "parent", "elder"):
            self.wrong(Rule, 1, space=1, **{name: "x"})

    def test_settings(self):
        self.wrong(Rule, 1)
        self.wrong(Rule, 1, kind="A")
        self.wrong(Rule.made, 1, NO_PATTERN, [])
        for name in VALUE_NAMES:
            for value in VALUES[name]:
                for rule in (Rule(1, **{name: value}), Rule.made(1, NO_PATTERN, [[name, value]])):
                    self.assertEqual(rule.settings, ((name, value),))
                    self.assertIs(type(rule.settings[0][1]), type(value))

    def test_wrong_values(self):
        odd = (-1, 7, 10 ** 20, None, "1", "yes", 1.0, 0.0, [1], (), {})
        for name in VALUE_NAMES:
            wrong = list(odd)
            if name in ("face", "measure", "space"):
                wrong += [True, False, min(VALUES[name]) - 1, max(VALUES[name]) + 1]
            else:
                wrong += [0, 1, 2]
            for value in wrong:
                self.wrong(Rule, 1, **{name: value})
                self.wrong(Rule, 1, **dict({"page": True, "space": 1}, **{name: value}))
                self.wrong(Rule.made, 1, NO_PATTERN, [(name, value)])

    def test_wrong_names(self):
        for name in ("size", "Face", "spaces", ""):
            for value in (0, 1, True, False):
                self.wrong(Rule, 1, **{name: value})
                self.wrong(Rule, 1, face=1, **{name: value})
            self.wrong(Rule.made, 1, NO_PATTERN, [(name, 1)])
            self.wrong(Rule.made, 1, NO_PATTERN, [("face", 1), (name, 1)])
        for name in ("kind", "mark", "weight", "self", "cls", "settings"):
            self.wrong(Rule.made, 1, NO_PATTERN, [("face", 1), (name, "A")])

    def test_made_in_any_order(self):
        settings = [("face", 1), ("space", 2), ("kept", False), ("out", True)]
        wanted = Rule(4, mark="x", face=1, space=2, kept=False, out=True)
        for order in itertools.permutations(settings):
            for kind in (list, tuple):
                told = Rule.made(4, kind(["", "x", "", "", ""]), kind([kind(pair) for pair in order]))
                self.assertEqual(told, wanted)
                self.assertEqual(told.settings, tuple(settings))

    def test_made_of_wrong_things(self):
        good = [("space", 1)]
        for pattern in (None, "", "abcde", 5, ("", "", "", ""), ("",) * 6, {}, {"kind": "A"}):
            self.wrong(Rule.made, 1, pattern, good)
        for settings in (None, "ab", 5, {"space": 1}, ["space"], [("space",)], [("space", 1, 1)], [5], [None],
                         ["ab"], [{"space": 1}], [(1, "space")], [(None, 1)], [(["space"], 1)]):
            self.wrong(Rule.made, 1, NO_PATTERN, settings)

    def test_made_with_a_name_twice(self):
        self.wrong(Rule.made, 1, NO_PATTERN, [("space", 1), ("space", 1)])
        self.wrong(Rule.made, 1, NO_PATTERN, [("space", 1), ("kept", True), ("space", 2)])

    def test_lists_that_are_changed_later(self):
        pattern, pair = ["A", "", "", "", ""], ["space", 1]
        settings = [pair]
        rule = Rule.made(1, pattern, settings)
        pattern[0], pair[1] = "B", 2
        settings.append(("kept", True))
        self.assertEqual((rule.pattern, rule.settings), (("A", "", "", "", ""), (("space", 1),)))
        self.assertEqual((type(rule.pattern), type(rule.settings), type(rule.settings[0])), (tuple,) * 3)

    def test_patterns_are_passed_by_keyword(self):
        with self.assertRaises(TypeError):
            Rule(1, "A", space=1)


class TestSetting(Case):
    def test_values(self):
        rule = Rule(1, face=0, kept=False, page=True)
        self.assertEqual([rule.setting(name) for name in VALUE_NAMES], [0, None, None, False, True, None])
        self.assertIs(rule.setting("kept"), False)
        self.assertIsNot(rule.setting("face"), False)


class TestMatching(Case):
    CONTEXT = ("B", "xy", "C", 1, 4, True)

    def test_each_text_alone(self):
        told = [
            ("kind", "A", True), ("kind", "B", False), ("kind", "C", False), ("mark", "x", True), ("mark", "y", False),
            ("parent", "B", True), ("parent", "A", False), ("parent", "C", False), ("above", "x", True),
            ("above", "y", True), ("elder", "C", True), ("elder", "A", False), ("elder", "B", False),
        ]
        for name, text, wanted in told:
            rule = Rule(1, space=1, **{name: text})
            self.assertIs(rule("A", "x", self.CONTEXT), wanted)

    def test_no_text_matches_all(self):
        rule = Rule(1, space=1)
        for marks in ("", "x", "y", "xy"):
            self.assertIs(rule("C", marks, ("", "", "", 0, 1, False)), True)
            self.assertIs(rule("C", marks, self.CONTEXT), True)

    def test_marks(self):
        for mark in "xy":
            for marks in ("", "x", "y", "xy"):
                self.assertIs(Rule(1, mark=mark, space=1)("A", marks, self.CONTEXT), mark in marks)
                context = ("A", marks, "", 0, 1, False)
                self.assertIs(Rule(1, above=mark, space=1)("A", "xy"[:1], context), mark in marks)

    def test_own_marks_are_not_above(self):
        self.assertIs(Rule(1, above="x", space=1)("A", "x", ("B", "y", "", 0, 1, False)), False)
        self.assertIs(Rule(1, mark="y", space=1)("A", "x", ("B", "y", "", 0, 1, False)), False)

    def test_the_root(self):
        context = ("", "", "", 0, 3, False)
        self.assertIs(Rule(1, kind="A", space=1)("A", "", context), True)
        for named in ({"parent": "A"}, {"elder": "A"}, {"above": "x"}, {"mark": "x"}):
            self.assertIs(Rule(1, space=1, **named)("A", "", context), False)

    def test_together(self):
        rule = Rule(1, kind="A", mark="x", parent="B", above="y", elder="C", space=1)
        self.assertIs(rule("A", "xy", self.CONTEXT), True)
        for kind, marks, context in (
            ("B", "xy", self.CONTEXT), ("A", "y", self.CONTEXT), ("A", "xy", ("A", "xy", "C", 1, 4, True)),
            ("A", "xy", ("B", "x", "C", 1, 4, True)), ("A", "xy", ("B", "xy", "", 1, 4, True)),
        ):
            self.assertIs(rule(kind, marks, context), False)

    def test_what_is_handed_down_does_not_matter(self):
        rule = Rule(1, kind="A", parent="B", space=1)
        for face, measure, gone in itertools.product((0, 1), range(1, 7), (False, True)):
            self.assertIs(rule("A", "", ("B", "", "A", face, measure, gone)), True)


class TestEqual(Case):
    def test_equal(self):
        one = Rule(3, kind="A", space=1, out=False)
        self.assertTrue(one == Rule(3, out=False, kind="A", space=1))
        self.assertFalse(one != Rule.made(3, ["A", "", "", "", ""], [("out", False), ("space", 1)]))

    def test_unlike(self):
        one = Rule(3, kind="A", space=1)
        for two in (Rule(4, kind="A", space=1), Rule(3, kind="B", space=1), Rule(3, parent="A", space=1),
                    Rule(3, kind="A", space=2), Rule(3, kind="A", space=1, page=False), Rule(3, kind="A", face=1)):
            self.assertFalse(one == two)
            self.assertTrue(one != two)
        for other in (None, 3, (3, ("A", "", "", "", ""), (("space", 1),)), "3 kind=A : space=1"):
            self.assertFalse(one == other)
