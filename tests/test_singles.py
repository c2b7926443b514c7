import random

from helpers import BAR, DOT, HOOK, Case, random_grammar, random_style
from plainly import Set, all_pieces, is_complete

from pressalike.errors import BadGrammar, BadStanding
from pressalike.faces import Face
from pressalike.grammar import Grammar
from pressalike.rules import Rule
from pressalike.sheets import Sheet
from pressalike.singles import single_ends
from pressalike.standings import standings
from pressalike.styles import Style
from pressalike.treetext import write_tree

FACE = Face([DOT])
TOP, OPEN = ("top", 0, 0), ("open", 1, 0)
FLAT = Grammar("A", {"A": (1, [(0, "B", "", 0)], [0]), "B": None})
NO_MANUSCRIPT = Grammar("A", {"A": (1, [(0, "A", "", 0)], []), "B": None})
# Contexts that occur and such that do not; in the last one everything is left out.
CONTEXTS = [("", "", "", 0, 3, False), ("A", "x", "B", 1, 2, False), ("B", "xy", "", 0, 1, False), ("C", "", "A", 0, 2, True)]


def style_of(*rules, faces=(FACE,), **named):
    return Style(Sheet(rules), faces, **named)


class TestSingleEnds(Case):
    def check(self, style, grammar, kind, marks, context, standing, most):
        told = single_ends(style, grammar, kind, marks, context, standing)
        ends = [row[0] for row in told]
        self.assertEqual(ends, sorted(set(ends)))
        for end, piece in told:
            self.assertEqual((piece.kind, piece.marks), (kind, marks))
            self.assertTrue(is_complete(grammar.trimmed(), piece))
            self.assertEqual(Set(style, piece, context, standing).behind, end)
        for piece in all_pieces(grammar.trimmed(), kind, marks, most, style.faces[0].letters):
            self.assertIn(Set(style, piece, context, standing).behind, ends)
        return ends

    def test_example(self):
        grammar = Grammar("A", {"A": (1, [(0, "B", "", 0)], [0]), "B": None})
        face = Face([[[(0, 0), (1, 0), (1, 1), (0, 1)]]])
        style = Style(Sheet([Rule(1, kind="B", space=1)]), [face])
        context = ("A", "", "B", 0, 3, False)
        self.assertEqual(
            [row[0] for row in single_ends(style, grammar, "B", "", context, ("top", 0, 0))], [('open', 1, 0), ('top', 0, 0)])

    def test_all_standings(self):
        for length in (2, 3, 4):
            for rules in ((), (Rule(1, kind="B", kept=True),), (Rule(1, kind="B", space=1), Rule(1, elder="B", kept=True))):
                style = style_of(*rules, length=length)
                for standing in standings(length):
                    self.check(style, FLAT, "B", "", ("A", "", "B", 0, 3, False), standing, 7)
                    self.check(style, FLAT, "A", "", style.root_context(), standing, 7)

    def test_kept_blocks_leave_more(self):
        style = style_of(Rule(1, kind="B", kept=True), length=3)
        ends = self.check(style, FLAT, "A", "", style.root_context(), TOP, 8)
        self.assertEqual(ends, [("kept", 1, 0), ("kept", 2, 0), ("kept", 3, 2), TOP])

    def test_new_pages(self):
        style = style_of(Rule(1, kind="A", page=True))
        self.assertEqual(self.check(style, FLAT, "A", "x", style.root_context(), OPEN, 7), [OPEN, TOP])
        style = style_of(Rule(1, mark="x", page=True))
        self.assertEqual(self.check(style, FLAT, "B", "x", style.root_context(), OPEN, 5), [OPEN, TOP])
        none = Grammar("A", {"A": (1, [], [0])})
        self.assertEqual(self.check(style, none, "A", "x", style.root_context(), OPEN, 3), [TOP])
        self.assertEqual(self.check(style, none, "A", "", style.root_context(), OPEN, 3), [OPEN])

    def test_left_out_and_gone(self):
        style = style_of(Rule(1, mark="x", out=True), Rule(1, mark="x", page=True))
        for standing in standings(2):
            self.assertEqual(self.check(style, FLAT, "A", "x", style.root_context(), standing, 5), [standing])
            self.assertEqual(self.check(style, FLAT, "B", "x", style.root_context(), standing, 5), [standing])
            self.assertEqual(self.check(style, FLAT, "A", "", ("", "", "", 0, 3, True), standing, 5), [standing])

    def test_random_ones(self):
        chance = random.Random(221)
        for _ in range(60):
            style, grammar = random_style(chance, [FACE]), random_grammar(chance)
            for kind in grammar.trimmed().kinds:
                standing = chance.choice(standings(style.length))
                self.check(style, grammar, kind, chance.choice(["", "x", "y", "xy"]), chance.choice(CONTEXTS), standing, 6)

    def test_two_faces(self):
        chance = random.Random(222)
        faces = [Face([DOT, HOOK]), Face([DOT, BAR]), Face([DOT, HOOK], 2)]
        for _ in range(40):
            style, grammar = random_style(chance, faces), random_grammar(chance)
            kind = chance.choice(grammar.trimmed().kinds)
            self.check(style, grammar, kind, "", chance.choice(CONTEXTS), chance.choice(standings(style.length)), 5)

    def test_kinds_that_are_used_by_no_manuscript(self):
        grammar = Grammar("A", {
            "A": (2, [(0, "B", "", 0), (0, "C", "", 1)], [0]), "B": None, "C": (1, [(0, "B", "", 0)], [0]),
        })
        style = style_of()
        self.check(style, grammar, "A", "y", style.root_context(), TOP, 6)
        self.check_error(BadGrammar, {"kind": "C"}, single_ends, style, grammar, "C", "", style.root_context(), TOP)

    def test_refused(self):
        style, context = style_of(), ("A", "", "B", 0, 3, False)
        self.check_error(BadGrammar, {"kind": "A"}, single_ends, style, NO_MANUSCRIPT, "C", "", context, "top")
        self.check_error(BadGrammar, {"kind": "C"}, single_ends, style, FLAT, "C", "", context, "top")
        for wrong in ("top", None, ["top", 0, 0], ("top", 0), ("top", False, 0), ("open", 2, 0), ("kept", 1, 1), ("open", 1, []), 5):
            self.check_error(BadStanding, {"standing": wrong}, single_ends, style, FLAT, "B", "", context, wrong)

    def test_lists_are_new(self):
        style = style_of()
        told = single_ends(style, FLAT, "A", "", style.root_context(), TOP)
        many = len(told)
        told.clear()
        self.assertEqual(len(single_ends(style, FLAT, "A", "", style.root_context(), TOP)), many)

    def test_least_pieces(self):
        style = style_of()
        told = single_ends(style, FLAT, "A", "xy", style.root_context(), TOP)
        self.assertEqual([write_tree(piece) for _, piece in told], ["Axy{B[a]}", "Axy{}"])
