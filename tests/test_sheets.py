import itertools
import random

from helpers import Case, random_rule

from pressalike.errors import BadRule
from pressalike.rules import VALUE_NAMES, Rule
from pressalike.sheets import Sheet

RULE = Rule(1, space=1)
CONTEXT = ("B", "y", "C", 1, 4, False)
GONE = ("B", "y", "C", 1, 4, True)
VALUES = {
    "face": (0, 1), "measure": (1, 2, 3, 4, 5, 6), "space": (0, 1, 2),
    "kept": (False, True), "page": (False, True), "out": (False, True),
}


def random_context(chance):
    above = chance.choice(["", "x", "y", "xy"])
    parent, elder = chance.choice(["", "A", "B", "C"]), chance.choice(["", "A", "B", "C"])
    return parent, above, elder, chance.randrange(2), chance.randrange(1, 7), chance.random() < 0.3


def plain_winner(sheet, kind, marks, context, name):
    asked = [
        (rule.weight, place) for place, rule in enumerate(sheet.rules)
        if name in dict(rule.settings) and rule(kind, marks, context)
    ]
    return max(asked)[1] if asked else None


class TestMaking(Case):
    def wrong(self, place, rules):
        self.check_error(BadRule, {"place": place}, Sheet, rules)

    def test_numbers_of_rules(self):
        for many in range(7):
            rules = [Rule(1, space=1, measure=at + 1) for at in range(many)]
            for kind in (list, tuple):
                sheet = Sheet(kind(rules))
                self.assertEqual((sheet.rules, len(sheet), list(sheet)), (tuple(rules), many, rules))
        self.wrong(6, [RULE] * 7)
        self.wrong(6, [RULE] * 9)

    def test_what_is_no_row(self):
        for rules in (None, 5, "", "abc", {}, RULE, Sheet([]), iter([RULE])):
            self.wrong(None, rules)

    def test_the_first_wrong_place(self):
        for thing in (None, 1, "1 : space=1", Rule, [RULE], Sheet([])):
            self.wrong(0, [thing])
            self.wrong(1, (RULE, thing, RULE, thing))
            self.wrong(5, [RULE] * 5 + [thing] + [RULE])
            self.wrong(6, [RULE] * 6 + [thing])
            self.wrong(2, [RULE] * 2 + [thing] * 7)

    def test_lists_that_are_changed_later(self):
        rules = [RULE]
        sheet = Sheet(rules)
        rules.append(RULE)
        self.assertEqual(len(sheet), 1)

    def test_equal(self):
        one, two = Rule(1, space=1), Rule(2, space=1)
        self.assertTrue(Sheet([one, two]) == Sheet((Rule(1, space=1), Rule(2, space=1))))
        self.assertTrue(Sheet([]) == Sheet(()))
        for other in (Sheet([two, one]), Sheet([one]), Sheet([]), Sheet([one, two, two]), None, [one, two], (one, two)):
            self.assertFalse(Sheet([one, two]) == other)
            self.assertTrue(Sheet([one, two]) != other)


class TestWinners(Case):
    def test_without(self):
        for name in VALUE_NAMES:
            self.assertIsNone(Sheet([]).winner("A", "", CONTEXT, name))
            self.assertIsNone(Sheet([Rule(9, kind="B", **{name: VALUES[name][0]})]).winner("A", "", CONTEXT, name))

    def test_weights(self):
        sheet = Sheet([Rule(2, space=1), Rule(5, space=2), Rule(3, space=0)])
        self.assertEqual(sheet.winner("A", "", CONTEXT, "space"), 1)

    def test_the_last_of_one_weight(self):
        sheet = Sheet([Rule(5, space=1), Rule(5, space=2), Rule(0, space=0), Rule(5, face=0), Rule(5, kind="B", space=1)])
        self.assertEqual(sheet.winner("A", "", CONTEXT, "space"), 1)
        self.assertEqual(sheet.winner("B", "", CONTEXT, "space"), 4)

    def test_weight_comes_before_the_place(self):
        self.assertEqual(Sheet([Rule(1, space=1), Rule(0, space=2)]).winner("A", "", CONTEXT, "space"), 0)

    def test_each_name_by_itself(self):
        sheet = Sheet([
            Rule(1, space=1, kept=True), Rule(2, kept=False, page=True), Rule(3, kind="B", space=2), Rule(0, face=0, page=False),
        ])
        told = [sheet.winner("A", "", CONTEXT, name) for name in VALUE_NAMES]
        self.assertEqual(told, [3, None, 0, 1, 1, None])

    def test_settings_of_nought_and_false_win(self):
        sheet = Sheet([Rule(1, space=2, kept=True, face=1), Rule(1, space=0, kept=False, face=0)])
        self.assertEqual([sheet.winner("A", "", CONTEXT, name) for name in ("space", "kept", "face")], [1, 1, 1])
        self.assertEqual(sheet.values_of("A", "", CONTEXT), (0, 4, 0, False, False, False))

    def test_gone(self):
        sheet = Sheet([Rule(1, out=False, space=1)])
        self.assertEqual((sheet.winner("A", "", GONE, "out"), sheet.winner("A", "", GONE, "space")), (0, 0))

    def test_against_the_words(self):
        chance = random.Random(15)
        for _ in range(1500):
            sheet = Sheet([random_rule(chance) for _ in range(chance.randrange(7))])
            kind, marks, context = chance.choice("ABC"), chance.choice(["", "x", "y", "xy"]), random_context(chance)
            values = []
            for name, base in zip(VALUE_NAMES, (context[3], context[4], 0, False, False, False)):
                won = plain_winner(sheet, kind, marks, context, name)
                self.assertEqual(sheet.winner(kind, marks, context, name), won)
                values.append(base if won is None else dict(sheet.rules[won].settings)[name])
            if context[5]:
                values[5] = True
            told = sheet.values_of(kind, marks, context)
            self.assertEqual(told, tuple(values))
            self.assertEqual([type(value) for value in told], [int] * 3 + [bool] * 3)
            below = sheet.below(kind, marks, context, "B")
            above = "".join(mark for mark in "xy" if mark in context[1] or mark in marks)
            self.assertEqual(below, (kind, above, "B", values[0], values[1], values[5]))


class TestValues(Case):
    def test_examples(self):
        sheet = Sheet([Rule(1, kind="A", space=2, face=1), Rule(1, mark="x", space=1)])
        self.assertEqual(sheet.values_of("A", "x", ("B", "", "", 0, 3, False)), (1, 3, 1, False, False, False))
        self.assertEqual(sheet.below("A", "x", ("B", "y", "", 0, 3, False), "C"), ('A', 'xy', 'C', 1, 3, False))

    def test_without_a_winner(self):
        for face, measure in itertools.product((0, 1), range(1, 7)):
            context = ("A", "", "", face, measure, False)
            self.assertEqual(Sheet([]).values_of("A", "x", context), (face, measure, 0, False, False, False))

    def test_gone(self):
        sheet = Sheet([Rule(1, out=False, space=1, kept=True, page=True, face=0, measure=2)])
        self.assertEqual(sheet.values_of("A", "", GONE), (0, 2, 1, True, True, True))
        self.assertEqual(sheet.values_of("A", "", CONTEXT), (0, 2, 1, True, True, False))
        self.assertEqual(Sheet([]).values_of("A", "", GONE), (1, 4, 0, False, False, True))


class TestBelow(Case):
    def test_marks(self):
        for above, marks in itertools.product(("", "x", "y", "xy"), repeat=2):
            told = Sheet([]).below("C", marks, ("A", above, "B", 1, 5, False), "")
            wanted = "".join(mark for mark in "xy" if mark in above + marks)
            self.assertEqual(told, ("C", wanted, "", 1, 5, False))

    def test_values_are_handed_down(self):
        sheet = Sheet([Rule(1, kind="A", measure=2, face=0, out=True)])
        self.assertEqual(sheet.below("A", "", CONTEXT, "A"), ("A", "y", "A", 0, 2, True))
        self.assertEqual(sheet.below("B", "", CONTEXT, "A"), ("B", "y", "A", 1, 4, False))

    def test_gone_stays(self):
        sheet = Sheet([Rule(1, out=False)])
        self.assertEqual(sheet.below("A", "x", GONE, ""), ("A", "xy", "", 1, 4, True))


class TestChanging(Case):
    def test_with_rule(self):
        sheet = Sheet([Rule(1, space=1)])
        other = Rule(2, space=2)
        self.assertEqual(sheet.with_rule(other), Sheet([Rule(1, space=1), other]))
        self.assertEqual(sheet, Sheet([Rule(1, space=1)]))
        self.assertEqual(len(Sheet([RULE] * 5).with_rule(RULE)), 6)

    def test_with_rule_refuses(self):
        for many in range(6):
            sheet = Sheet([RULE] * many)
            for thing in (None, 1, "1 : space=1", [RULE], Rule):
                self.check_error(BadRule, {"place": many}, sheet.with_rule, thing)
            self.assertEqual(len(sheet), many)
        for thing in (RULE, None):
            self.check_error(BadRule, {"place": 6}, Sheet([RULE] * 6).with_rule, thing)

    def test_without(self):
        rules = [Rule(at, space=1) for at in range(6)]
        sheet = Sheet(rules)
        for place in range(6):
            self.assertEqual(sheet.without(place), Sheet(rules[:place] + rules[place + 1:]))
        self.assertEqual(sheet, Sheet(rules))
        self.assertEqual(Sheet([RULE]).without(0), Sheet([]))

    def test_without_refuses(self):
        for place in (-1, 2, 10 ** 20, True, False, None, "0", 0.0, (0,), [0]):
            self.check_error(BadRule, {"place": place}, Sheet([RULE, RULE]).without, place)
        self.check_error(BadRule, {"place": 0}, Sheet([]).without, 0)
