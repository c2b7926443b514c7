import random

from helpers import BAR, DOT, FOOT, HOOK, Case, random_grammar, random_style

from pressalike.changes import changed
from pressalike.errors import BadGrammar, BadStyle
from pressalike.faces import Face
from pressalike.grammar import Grammar
from pressalike.housematrix import House
from pressalike.prints import Print
from pressalike.rules import Rule
from pressalike.setter import print_tree
from pressalike.sheets import Sheet
from pressalike.styles import Style
from pressalike.treetext import read_tree
from pressalike.verdict import compare_styles

FACE = Face([DOT])
FLAT = Grammar("A", {"A": (1, [(0, "B", "", 0)], [0]), "B": None})
MARKED = Grammar("A", {"A": (1, [(0, "B", "", 0), (0, "B", "x", 0)], [0]), "B": None})
NO_MANUSCRIPT = Grammar("A", {"A": (1, [(0, "A", "", 0)], []), "B": None})


def style_of(*rules, faces=(FACE,), **named):
    return Style(Sheet(rules), faces, **named)


class TestHouse(Case):
    def check(self, styles, grammar):
        house = House(styles, grammar)
        classes = []
        for place, style in enumerate(styles):
            for told in classes:
                if compare_styles(styles[told[0]], style, grammar).is_alike:
                    told.append(place)
                    break
            else:
                classes.append([place])
        self.assertEqual(house.classes, tuple(map(tuple, classes)))
        self.assertLessEqual(len(house.specimens), max(len(classes) - 1, 0))
        for tree in house.specimens:
            self.assertTrue(grammar.fits(tree))
        for first, one in enumerate(styles):
            self.assertIn(first, house.classes[house.class_of(first)])
            for second, two in enumerate(styles):
                tree = house.unlike(first, second)
                alike = house.class_of(first) == house.class_of(second)
                self.assertIs(tree is None, alike)
                self.assertIs(alike, [print_tree(one, told) for told in house.specimens] == [print_tree(two, told) for told in house.specimens])
                if tree is not None:
                    self.assertTrue(grammar.fits(tree))
                    self.assertNotEqual(print_tree(one, tree), print_tree(two, tree))
        self.check_recognised(house, styles)
        return house

    def check_recognised(self, house, styles):
        for place, style in enumerate(styles):
            prints = [print_tree(style, tree) for tree in house.specimens]
            self.assertEqual(house.recognised(prints), house.class_of(place))
            self.assertEqual(house.recognised(tuple(prints)), house.class_of(place))
            self.assertIsNone(house.recognised(prints + [Print([])]))
            if prints:
                self.assertIsNone(house.recognised(prints[:-1]))
                self.assertIsNone(house.recognised([Print([])] + prints[1:]))

    def test_example(self):
        grammar = Grammar("A", {"A": (1, [(0, "B", "", 0)], [0]), "B": None})
        style = Style(Sheet([Rule(1, kind="B", measure=1)]), [FACE])
        wide = ("set", 0, Rule(1, kind="B", measure=3))
        hides = ("add", Rule(2, kind="B", parent="A", measure=1))
        styles = [style, changed(style, [wide]), changed(style, [wide, hides])]
        house = House(styles, grammar)
        self.assertEqual((house.classes, house.unlike(0, 2), len(house.specimens)), (((0, 2), (1,)), None, 1))
        self.assertEqual(house.recognised([print_tree(styles[1], house.specimens[0])]), 1)

    def test_none_and_one(self):
        house = self.check([], FLAT)
        self.assertEqual((house.classes, house.specimens, house.recognised(()), house.recognised([Print([])])), ((), (), None, None))
        house = self.check([style_of()], FLAT)
        self.assertEqual((house.classes, house.specimens, house.recognised(()), house.recognised([])), (((0,),), (), 0, 0))
        self.assertIsNone(house.recognised([print_tree(style_of(), read_tree("A{}"))]))

    def test_equal_ones(self):
        house = self.check([style_of(), style_of(), style_of(Rule(1, kind="A", space=1)), style_of()], FLAT)
        self.assertEqual((house.classes, house.specimens), (((0, 1, 2, 3),), ()))

    def test_six_classes(self):
        # All ends of words are odd, so that a measure more makes a difference only if it is odd.
        styles = [style_of(measure=measure) for measure in range(1, 7)]
        self.assertEqual(self.check(styles, FLAT).classes, ((0, 1), (2, 3), (4, 5)))
        others = styles[::2] + [style_of(length=3), style_of(length=4), style_of(Rule(1, kind="B", out=True))]
        self.assertEqual(self.check(others, FLAT).classes, tuple((place,) for place in range(6)))
        mixed = [styles[3], styles[0], styles[3], style_of(length=4), style_of(Rule(1, kind="B", page=True)), styles[0]]
        self.assertEqual(self.check(mixed, FLAT).classes, ((0, 2), (1, 5), (3,), (4,)))

    def test_prints_exchanged(self):
        styles = [style_of(), style_of(measure=1), style_of(Rule(1, mark="x", out=True)), style_of(length=3)]
        house = self.check(styles, MARKED)
        prints = [print_tree(styles[0], tree) for tree in house.specimens]
        self.assertGreater(len(prints), 1)
        self.assertIsNone(house.recognised(prints[::-1]))

    def test_faces(self):
        foot = Face([FOOT])
        styles = [
            style_of(faces=[FACE, foot]), style_of(Rule(1, kind="B", face=1), faces=[FACE, foot]), style_of(faces=[foot]),
            style_of(Rule(1, kind="A", face=1), faces=[foot, FACE]),
        ]
        self.assertEqual(self.check(styles, FLAT).classes, ((0, 3), (1, 2)))

    def test_random_ones(self):
        chance = random.Random(361)
        faces = [Face([DOT, HOOK]), Face([DOT, BAR])]
        sizes = set()
        for number in range(40):
            grammar = random_grammar(chance)
            base = random_style(chance, [FACE] if number % 2 else faces)
            styles = [base]
            for _ in range(chance.randrange(6)):
                rules = list(chance.choice(styles).sheet)
                chance.shuffle(rules)
                styles.append(base.with_sheet(Sheet(rules[:chance.randrange(7)])))
            sizes.add(len(self.check(styles, grammar).classes))
        self.assertGreater(len(sizes), 2)

    def test_what_is_passed_is_copied(self):
        styles = [style_of(), style_of(measure=1)]
        house = House(styles, FLAT)
        styles.clear()
        self.assertIsNotNone(house.unlike(0, 1))

    def test_refused(self):
        other = style_of(faces=[Face([DOT, BAR])])
        for styles in ([style_of(), other], [style_of(), style_of(), other], (other, style_of())):
            self.check_error(BadStyle, {"field": "faces"}, House, styles, NO_MANUSCRIPT)
        for styles in ([], [style_of()], [style_of(), style_of(measure=1)]):
            self.check_error(BadGrammar, {"kind": "A"}, House, styles, NO_MANUSCRIPT)
