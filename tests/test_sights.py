import random

from helpers import DOT, FOOT, Case, random_style

from pressalike.faces import Face
from pressalike.pieces import KINDS, MARKS
from pressalike.rules import Rule
from pressalike.sheets import Sheet
from pressalike.sights import RuleSight, Sight
from pressalike.styles import Style


def random_context(chance):
    parent, elder = chance.choice(["", "A", "B", "C"]), chance.choice(["", "A", "B", "C"])
    return parent, chance.choice(MARKS), elder, chance.randrange(2), chance.randrange(1, 7), chance.random() < 0.2


class TestSights(Case):
    def test_all_is_seen(self):
        chance = random.Random(411)
        for _ in range(100):
            style, context = random_style(chance), random_context(chance)
            sight, label = Sight(style), (chance.choice(KINDS), chance.choice(MARKS))
            self.assertEqual(sight.told(context), context)
            told = style.sheet.values_of(*label, context), style.sheet.below(*label, context, "")
            self.assertEqual(sight.set_in(*label, context), told)
            self.assertEqual(sight.part_context(told[1], "B"), style.sheet.below(*label, context, "B"))

    def test_what_rules_see_sets_pieces_alike(self):
        chance = random.Random(412)
        faces = [Face([DOT]), Face([FOOT])]
        seen = set()
        for _ in range(2000):
            style, context = random_style(chance, faces), random_context(chance)
            sight, label = RuleSight(style), (chance.choice(KINDS), chance.choice(MARKS))
            told = sight.told(context)
            seen.add(told)
            self.assertEqual(sight.told(told), told)
            values, below = sight.set_in(*label, context)
            self.check_values(style, values, style.sheet.values_of(*label, context))
            elder = chance.choice(KINDS)
            self.assertEqual(sight.part_context(below, elder), sight.told(style.sheet.below(*label, context, elder)))
            self.assertEqual(sight.part_context(below, sight.elder(elder)), sight.part_context(below, elder))
        self.assertLess(len(seen), 1000)

    def check_values(self, style, values, wanted):
        self.assertIs(values[5], wanted[5])
        if not wanted[5]:
            self.assertEqual(values[1:], wanted[1:])
            self.assertEqual(style.face(values[0]), style.face(wanted[0]))

    def test_what_nothing_asks_for(self):
        style = Style(Sheet([Rule(1, elder="A", space=1), Rule(1, above="x", measure=1)]), [Face([DOT]), Face([DOT])])
        sight = RuleSight(style)
        self.assertEqual(sight.told(("B", "xy", "C", 1, 4, False)), ("", "x", "", 0, 4, False))
        self.assertEqual(sight.told(("B", "y", "A", 1, 4, False)), ("", "", "A", 0, 4, False))
        self.assertEqual([sight.elder(kind) for kind in KINDS], ["A", "", ""])
