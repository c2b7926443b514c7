import random

from helpers import BAR, DOT, HOOK, Case, random_grammar, random_rule, random_style
from plainly import all_pieces, each_edit
from test_changes import plain_changed, random_changes
from test_reach import DEEP, DEEP_STYLE

from pressalike.changes import all_lots
from pressalike.errors import BadChange, BadGrammar
from pressalike.faces import Face
from pressalike.grammar import Grammar
from pressalike.keptbook import KeptBook
from pressalike.lots import AlikeLots, Lots, ReachLots
from pressalike.reach import reach
from pressalike.rules import Rule
from pressalike.setter import print_tree
from pressalike.sheets import Sheet
from pressalike.styles import Style
from pressalike.verdict import compare_styles

FACE = Face([DOT])
FLAT = Grammar("A", {"A": (1, [(0, "B", "", 0)], [0]), "B": None})
MARKED = Grammar("A", {"A": (1, [(0, "B", "", 0), (0, "B", "x", 0)], [0]), "B": None})
NO_MANUSCRIPT = Grammar("A", {"A": (1, [(0, "A", "", 0)], []), "B": None})


def style_of(*rules, faces=(FACE,), **named):
    return Style(Sheet(rules), faces, **named)


class LotsCase(Case):
    def check_lots(self, lots, style, changes, good):
        """All that follows from which lots are good, by [11.5]."""
        every = list(all_lots(len(changes)))
        self.assertEqual(lots.good, tuple(lot for lot in every if lot in good))
        least = tuple(lot for lot in lots.good if not any(set(other) < set(lot) for other in good))
        self.assertEqual(lots.least, least)
        turns = [(lot, place) for lot in lots.good for place in range(len(changes))
                 if place not in lot and tuple(sorted(lot + (place,))) not in good]
        self.assertEqual(lots.turns, tuple(turns))
        self.assertIs(lots.is_monotone, not turns)
        self.assertEqual(lots.fewest, least[0] if least else None)
        for lot in every:
            self.assertIs(lots.is_good(lot), lot in good)
            self.assertIs(lots.is_good(list(lot[::-1]) + list(lot[:1])), lot in good)
            self.assertEqual(lots.mended(lot), plain_changed(style, changes, lot))
            if lot in good:
                self.assertIsNone(lots.witness(lot))

    def check_places(self, lots, many, names):
        for name in names:
            for wrong in (many, -1, True, None, "0"):
                self.check_error(BadChange, {"place": wrong}, getattr(lots, name), [0, wrong, 99] if many else [wrong])


class TestLots(LotsCase):
    def test_every_lot_is_good(self):
        style, row = style_of(Rule(1, space=1)), [("drop", 0), ("length", 4), ("add", Rule(1, out=True))]
        lots = Lots(style, row, FLAT)
        self.check_lots(lots, style, row, set(all_lots(3)))
        self.assertEqual((lots.least, lots.turns, lots.fewest, lots.is_monotone), (((),), (), (), True))
        self.check_places(lots, 3, ("is_good", "witness", "mended"))

    def test_no_changes(self):
        for lots in (Lots(style_of(), [], FLAT), AlikeLots(style_of(), (), FLAT), ReachLots(style_of(), [], FLAT, "marks")):
            self.check_lots(lots, style_of(), [], {()})
            self.check_places(lots, 0, ("is_good", "witness", "mended"))

    def test_subclasses(self):
        for lots in (AlikeLots(style_of(), (), FLAT), ReachLots(style_of(), [], FLAT, "marks", 3)):
            self.assertIsInstance(lots, Lots)

    def test_refused(self):
        for made in (Lots, AlikeLots):
            self.check_error(BadChange, {"place": None}, made, style_of(), None, NO_MANUSCRIPT)
            self.check_error(BadChange, {"place": 1}, made, style_of(), [("length", 2), ("drop", 0)], NO_MANUSCRIPT)
            self.check_error(BadGrammar, {"kind": "A"}, made, style_of(), [], NO_MANUSCRIPT)
            self.check_error(BadGrammar, {"kind": "A"}, made, style_of(), [("length", 2)], NO_MANUSCRIPT)
        for deed in ("words", "marks", "parts"):
            self.check_error(BadChange, {"place": 0}, ReachLots, style_of(), [("drop", 0)], NO_MANUSCRIPT, deed, 4)
            self.check_error(BadGrammar, {"kind": "A"}, ReachLots, style_of(), [("length", 2)], NO_MANUSCRIPT, deed)


class TestAlikeLots(LotsCase):
    def check(self, style, changes, grammar, most):
        """The lots, compared with all manuscripts that cost at most so much."""
        lots = AlikeLots(style, changes, grammar)
        good = set()
        trees = all_pieces(grammar.trimmed(), grammar.root, "", most, style.faces[0].letters)
        for lot in all_lots(len(changes)):
            mended = plain_changed(style, changes, lot)
            if compare_styles(mended, style, grammar).is_alike:
                good.add(lot)
            witness = lots.witness(lot)
            if witness is None:
                for tree in trees:
                    self.assertEqual(print_tree(mended, tree), print_tree(style, tree))
            else:
                self.assertTrue(grammar.fits(witness))
                self.assertNotEqual(print_tree(mended, witness), print_tree(style, witness))
        self.check_lots(lots, style, changes, good)
        self.assertIn(tuple(range(len(changes))), lots.good)
        self.check_places(lots, len(changes), ("is_good", "witness", "mended"))
        return lots

    def test_example(self):
        grammar = Grammar("A", {"A": (1, [(0, "B", "", 0)], [0]), "B": None})
        style = Style(Sheet([Rule(1, kind="B", measure=1)]), [FACE])
        wide = ("set", 0, Rule(1, kind="B", measure=3))
        hides = ("add", Rule(2, kind="B", parent="A", measure=1))
        lots = AlikeLots(style, [wide, hides, ("add", Rule(1, kind="B", space=2))], grammar)
        self.assertEqual((lots.good, lots.least, lots.turns), (((2,), (0, 2), (0, 1, 2)), ((2,),), (((2,), 1),)))

    def test_changes_that_hide_one_another(self):
        style = style_of(Rule(1, kind="B", measure=1))
        wide, hides = ("set", 0, Rule(1, kind="B", measure=3)), ("add", Rule(2, kind="B", parent="A", measure=1))
        lots = self.check(style, [wide, hides], FLAT, 7)
        self.assertEqual((lots.good, lots.least, lots.turns, lots.fewest), (((), (0,), (0, 1)), ((),), (((), 1),), ()))
        self.assertIs(lots.is_monotone, False)

    def test_several_least_lots(self):
        # Each of the two rules is enough to keep the blocks together; so one of them may stay dropped.
        style = style_of(Rule(1, kind="B", kept=True), Rule(1, parent="A", kept=True), length=3)
        lots = self.check(style, [("drop", 0), ("drop", 1)], FLAT, 8)
        self.assertEqual((lots.good, lots.least, lots.is_monotone), (((0,), (1,), (0, 1)), ((0,), (1,)), True))
        self.assertEqual(lots.fewest, (0,))

    def test_changes_of_nothing(self):
        style = style_of(Rule(1, kind="B", space=1))
        lots = self.check(style, [("length", 2), ("add", Rule(1, kind="A", space=2)), ("set", 0, Rule(5, kind="B", space=2))], FLAT, 7)
        self.assertEqual((lots.least, lots.turns, len(lots.good)), (((),), (), 8))

    def test_length_and_measure(self):
        lots = self.check(style_of(), [("length", 3), ("measure", 2), ("add", Rule(0, measure=3))], FLAT, 7)
        self.assertEqual(lots.least, ((0,),))

    def test_random_ones(self):
        chance = random.Random(351)
        faces = [Face([DOT, HOOK]), Face([DOT, BAR])]
        shapes = set()
        for number in range(40):
            style, grammar = random_style(chance, [FACE] if number % 3 else faces), random_grammar(chance)
            lots = self.check(style, random_changes(chance, style)[:4], grammar, 5 if number % 3 else 4)
            shapes.add((len(lots.least), lots.is_monotone))
        self.assertGreater(len(shapes), 2)

    def test_six_changes(self):
        style = style_of(Rule(1, mark="x", kept=True), Rule(1, kind="B", space=1), length=3)
        row = [("drop", 0), ("set", 1, Rule(1, kind="B", space=2)), ("add", Rule(2, mark="x", kept=True)), ("add", Rule(0, kind="A", measure=2)),
               ("length", 2), ("measure", 3)]
        lots = self.check(style, row, MARKED, 6)
        self.assertEqual(lots.least, ((1, 3, 4),))


class TestReachLots(LotsCase):
    def check(self, style, changes, grammar, deed, most, spent=4):
        lots = ReachLots(style, changes, grammar, deed, most)
        good = set()
        trees = all_pieces(grammar.trimmed(), grammar.root, "", spent, style.faces[0].letters)
        for lot in all_lots(len(changes)):
            mended = plain_changed(style, changes, lot)
            told = reach(mended, grammar, deed)
            self.assertEqual(lots.reach_of(lot), told.most)
            self.assertEqual(lots.reach_of(list(lot) * 2), told.most)
            witness = lots.witness(lot)
            if told.most is not None and told.most <= most:
                good.add(lot)
                for tree in trees:
                    for edit in each_edit(grammar.trimmed(), tree, deed, 2, style.faces[0].letters):
                        if deed != "marks" or edit.path != () or edit.marks == "":
                            self.assertLessEqual(KeptBook(mended, tree).change(edit).behind, most)
            else:
                tree, edit = witness
                self.assertTrue(grammar.fits(tree) and grammar.fits(edit.apply(tree)))
                self.assertEqual(edit.DEED, deed)
                self.assertGreater(KeptBook(mended, tree).change(edit).behind, most)
        self.check_lots(lots, style, changes, good)
        self.check_places(lots, len(changes), ("is_good", "witness", "mended", "reach_of"))
        return lots

    def test_rules_that_stop_the_reach(self):
        style = style_of(Rule(1, kind="B", space=1))
        for deed in ("words", "parts"):
            lots = self.check(style, [("drop", 0), ("add", Rule(1, elder="B", page=True))], FLAT, deed, 0)
            self.assertEqual((lots.good, lots.least, lots.turns), (((), (0,)), ((),), (((), 1), ((0,), 1))))
            lots = self.check(style, [("drop", 0), ("add", Rule(1, elder="B", page=True))], FLAT, deed, 1)
            self.assertEqual((lots.good, lots.least), (((), (0,), (0, 1)), ((),)))
            lots = self.check(style, [("drop", 0)], FLAT, deed, 11)
            self.assertEqual((lots.good, lots.reach_of(()), lots.reach_of((0,))), (((0,),), None, 1))

    def test_the_bound_is_0_by_default(self):
        lots = ReachLots(style_of(Rule(1, kind="B", space=1)), [("length", 3)], FLAT, "words")
        self.assertEqual((lots.good, lots.fewest, lots.reach_of([0])), ((), None, 1))
        self.assertIs(lots.is_monotone, True)
        self.check_lots(lots, style_of(Rule(1, kind="B", space=1)), [("length", 3)], set())

    def test_no_good_lot(self):
        for deed in ("words", "parts"):
            for most in (0, 11):
                lots = self.check(style_of(), [("length", 3), ("measure", 1)], FLAT, deed, most)
                self.assertEqual((lots.good, lots.least, lots.fewest, lots.turns), ((), (), None, ()))

    def test_no_edit_of_the_deed(self):
        fixed = Grammar("A", {"A": (2, [(0, "B", "", 1)], [1]), "B": None})
        lots = self.check(style_of(), [("length", 3)], fixed, "parts", 0)
        self.assertEqual((lots.good, lots.reach_of(())), (((), (0,)), 0))

    def test_reaches_that_cannot_be_shown(self):
        lots = ReachLots(DEEP_STYLE, [("add", Rule(3, kind="B", page=True)), ("length", 3)], DEEP, "words", 11)
        self.assertEqual((lots.good, lots.reach_of((0,)), lots.reach_of((0, 1))), (((), (1,)), 63, 63))
        self.assertEqual((lots.witness((0,)), lots.witness([1, 0]), lots.witness(())), ((None, None), (None, None), None))

    def test_marks(self):
        row = [("add", Rule(1, mark="x", page=True)), ("add", Rule(2, mark="x", page=False))]
        lots = self.check(style_of(), row, MARKED, "marks", 0)
        self.assertEqual((lots.good, lots.turns), (((), (0,), (0, 1)), (((), 1),)))

    def test_random_ones(self):
        chance = random.Random(352)
        goods = set()
        for _ in range(25):
            style, grammar = random_style(chance, [FACE]), random_grammar(chance)
            style = style.with_sheet(Sheet(list(style.sheet)[:3] + [random_rule(chance)]))
            for deed in ("words", "marks", "parts"):
                lots = self.check(style, random_changes(chance, style)[:3], grammar, deed, chance.choice([0, 0, 1, 2, 11]), 3)
                goods.add((len(lots.good) > 0, len(lots.least), lots.is_monotone))
        self.assertGreater(len(goods), 3)
