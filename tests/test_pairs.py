import random

from helpers import BAR, DOT, HOOK, Case, random_grammar, random_style
from plainly import Set, all_pieces, counted, ends_of, in_order, is_complete

from pressalike.errors import BadGrammar, BadStanding
from pressalike.faces import Face
from pressalike.grammar import Grammar
from pressalike.pairs import pair_ends
from pressalike.rules import Rule
from pressalike.sheets import Sheet
from pressalike.standings import standings
from pressalike.styles import Style
from test_singles import CONTEXTS

FACE = Face([DOT])
TOP, OPEN = ("top", 0, 0), ("open", 1, 0)
FLAT = Grammar("A", {"A": (1, [(0, "B", "", 0)], [0]), "B": None})
ONE = Grammar("A", {"A": (2, [(0, "B", "", 1)], [1]), "B": None})
NO_MANUSCRIPT = Grammar("A", {"A": (1, [(0, "A", "", 0)], []), "B": None})


def style_of(*rules, faces=(FACE,), **named):
    return Style(Sheet(rules), faces, **named)


class TestPairEnds(Case):
    def check(self, style, grammar, kind, marks, context, one, two, most):
        told = pair_ends(style, grammar, kind, marks, context, one, two)
        self.assertEqual([row[:2] for row in told], [row[:2] for row in pair_ends(style, grammar, kind, marks, context, two, one)])
        numbers = {end: number for end, number, _ in told}
        self.assertEqual(list(numbers), in_order(numbers))
        self.assertEqual(len(numbers), len(told))
        for end, number, piece in told:
            sets = Set(style, piece, context, one), Set(style, piece, context, two)
            self.assertEqual((piece.kind, piece.marks, ends_of(sets[0].behind, sets[1].behind)), (kind, marks, end))
            self.assertTrue(is_complete(grammar.trimmed(), piece))
            if number is not None and number <= 60:
                self.assertEqual(counted(*sets), number)
        for piece in all_pieces(grammar.trimmed(), kind, marks, most, style.faces[0].letters):
            sets = Set(style, piece, context, one), Set(style, piece, context, two)
            end = ends_of(sets[0].behind, sets[1].behind)
            self.assertIn(end, numbers)
            if numbers[end] is not None:
                self.assertLessEqual(counted(*sets), numbers[end])
        return [row[:2] for row in told]

    def test_example(self):
        grammar = Grammar("A", {"A": (1, [(0, "B", "", 0)], [0]), "B": None})
        face = Face([[[(0, 0), (1, 0), (1, 1), (0, 1)]]])
        style = Style(Sheet([Rule(1, kind="B", space=1)]), [face])
        context = ("A", "", "B", 0, 3, False)
        self.assertEqual(
            [row[:2] for row in pair_ends(style, grammar, "B", "", context, ("top", 0, 0), ("open", 1, 0))],
            [((('open', 1, 0), ('top', 0, 0)), 0), (None, 1)])

    def test_all_pairs_of_standings(self):
        context = ("A", "", "B", 0, 3, False)
        for length in (2, 3, 4):
            for rules in ((), (Rule(1, kind="B", kept=True, space=1),)):
                style = style_of(*rules, length=length)
                for one in standings(length):
                    for two in standings(length):
                        self.check(style, FLAT, "B", "", context, one, two, 6)

    def test_equal_standings(self):
        style = style_of(Rule(1, kind="B", kept=True), length=3)
        for kind in "AB":
            for standing in standings(3):
                self.assertEqual(self.check(style, FLAT, kind, "y", style.root_context(), standing, standing, 6), [(None, 0)])

    def test_no_greatest_number(self):
        style = style_of()
        context = style.root_context()
        told = self.check(style, FLAT, "A", "", context, TOP, OPEN, 8)
        # Of length 2 without spaces, the one line more is felt for ever.
        self.assertEqual(told, [((OPEN, TOP), None), (None, None)])
        # Every block goes to a page of its own.
        style = style_of(Rule(1, kind="B", space=1))
        self.assertEqual(self.check(style, FLAT, "A", "", context, TOP, OPEN, 8), [((OPEN, TOP), 0), (None, 1)])
        style = style_of(Rule(1, kind="B", page=True))
        self.assertEqual(self.check(style, FLAT, "A", "", context, TOP, OPEN, 8), [((OPEN, TOP), 0), (None, 0)])

    def test_a_number_of_blocks(self):
        rooms = Grammar("A", {"A": (3, [(0, "B", "", 1), (1, "B", "", 2)], [2]), "B": (3, [(0, "C", "", 1), (1, "C", "x", 2)], [1, 2]), "C": None})
        style = style_of()
        told = dict(self.check(style, rooms, "A", "", style.root_context(), TOP, OPEN, 7))
        self.assertEqual(told[(OPEN, TOP)], 4)
        self.assertEqual(told[None], 4)

    def test_new_pages(self):
        style = style_of(Rule(1, mark="x", page=True))
        for kind in "AB":
            told = self.check(style, FLAT, kind, "x", style.root_context(), TOP, OPEN, 6)
            self.assertEqual(told, [(None, 0)])

    def test_left_out_and_gone(self):
        style = style_of(Rule(1, mark="x", out=True, page=True))
        for kind in "AB":
            for context, marks in ((style.root_context(), "x"), (("", "", "", 0, 3, True), "")):
                self.assertEqual(self.check(style, FLAT, kind, marks, context, TOP, OPEN, 6), [((OPEN, TOP), 0)])

    def test_standings_that_no_block_parts(self):
        # These two stay unlike until a line is set; it is counted.
        style = style_of(Rule(1, kind="B", kept=True), length=3)
        pair = ("kept", 3, 1), ("kept", 1, 0)
        told = self.check(style, ONE, "A", "", style.root_context(), pair[0], pair[1], 8)
        self.assertEqual(dict(told)[ends_of(*pair)], 0)
        self.assertEqual(dict(told)[None], 1)

    def test_random_ones(self):
        chance = random.Random(231)
        numbers = []
        for _ in range(80):
            style, grammar = random_style(chance, [FACE]), random_grammar(chance)
            for kind in grammar.trimmed().kinds:
                one, two = chance.choice(standings(style.length)), chance.choice(standings(style.length))
                told = self.check(style, grammar, kind, chance.choice(["", "x", "y", "xy"]), chance.choice(CONTEXTS), one, two, 6)
                numbers += [number for _, number in told]
        self.assertGreater(numbers.count(None), 20)
        self.assertGreater(len([number for number in numbers if number is not None and number > 1]), 10)

    def test_two_faces(self):
        chance = random.Random(232)
        faces = [Face([DOT, HOOK]), Face([DOT, BAR]), Face([DOT, HOOK], 2)]
        for _ in range(40):
            style, grammar = random_style(chance, faces), random_grammar(chance)
            one, two = chance.choice(standings(style.length)), chance.choice(standings(style.length))
            self.check(style, grammar, chance.choice(grammar.trimmed().kinds), "", chance.choice(CONTEXTS), one, two, 5)

    def test_refused(self):
        style, context = style_of(), ("A", "", "B", 0, 3, False)
        self.check_error(BadGrammar, {"kind": "A"}, pair_ends, style, NO_MANUSCRIPT, "C", "", context, 1, 2)
        self.check_error(BadGrammar, {"kind": "C"}, pair_ends, style, FLAT, "C", "", context, 1, 2)
        for wrong in (1, None, ["top", 0, 0], ("open", True, 0), ("open", 2, 0)):
            self.check_error(BadStanding, {"standing": wrong}, pair_ends, style, FLAT, "B", "", context, wrong, 2)
            self.check_error(BadStanding, {"standing": wrong}, pair_ends, style, FLAT, "B", "", context, TOP, wrong)

    def test_lists_are_new(self):
        style = style_of()
        told = pair_ends(style, FLAT, "A", "", style.root_context(), TOP, OPEN)
        told.clear()
        self.assertEqual(len(pair_ends(style, FLAT, "A", "", style.root_context(), TOP, OPEN)), 2)
