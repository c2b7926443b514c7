import random

from helpers import BAR, DOT, HOOK, Case, random_grammar, random_style
from plainly import Edited, Set, all_pieces, each_edit, in_order, is_complete, is_held

from pressalike.edits import Marks, Words
from pressalike.errors import BadGrammar, BadStanding
from pressalike.faces import Face
from pressalike.grammar import Grammar
from pressalike.ownparts import edit_ends, own_ends
from pressalike.pieces import Block
from pressalike.rules import Rule
from pressalike.sheets import Sheet
from pressalike.standings import standings
from pressalike.styles import Style
from test_singles import CONTEXTS

FACE = Face([DOT])
TOP, OPEN = ("top", 0, 0), ("open", 1, 0)
FLAT = Grammar("A", {"A": (1, [(0, "B", "", 0)], [0]), "B": None})
MARKED = Grammar("A", {"A": (1, [(0, "B", "", 0), (0, "B", "x", 0)], [0]), "B": None})
NO_MANUSCRIPT = Grammar("A", {"A": (1, [(0, "A", "", 0)], []), "B": None})
DEEDS = ("words", "marks", "parts")


def style_of(*rules, faces=(FACE,), **named):
    return Style(Sheet(rules), faces, **named)


def with_marks(piece, marks):
    return type(piece)(piece.kind, marks, piece.words if piece.is_block else piece.parts)


class TestOwnEnds(Case):
    def check(self, style, grammar, kind, new, old, most):
        told = own_ends(style, grammar, kind, new, old)
        ends = [row[:2] for row in told]
        self.assertEqual(ends, sorted(set(ends)))
        for one, two, piece in told:
            self.assertEqual((piece.kind, piece.marks), (kind, new[0]))
            self.assertTrue(is_complete(grammar.trimmed(), piece))
            self.assertEqual((one, two), self.behind(style, piece, new, old))
        for piece in all_pieces(grammar.trimmed(), kind, new[0], most, style.faces[0].letters):
            self.assertIn(self.behind(style, piece, new, old), ends)
        return ends

    def behind(self, style, piece, new, old):
        return Set(style, piece, new[1], new[2]).behind, Set(style, with_marks(piece, old[0]), old[1], old[2]).behind

    def test_example(self):
        grammar = Grammar("A", {"A": (1, [(0, "B", "", 0)], [0]), "B": None})
        face = Face([[[(0, 0), (1, 0), (1, 1), (0, 1)]]])
        style = Style(Sheet([Rule(1, kind="B", space=1)]), [face])
        context = ("A", "", "B", 0, 3, False)
        told = own_ends(style, grammar, "B", ("", context, ("top", 0, 0)), ("", context, ("open", 1, 0)))
        self.assertEqual([row[:2] for row in told], [
            (('open', 1, 0), ('open', 1, 0)), (('top', 0, 0), ('open', 1, 0)), (('top', 0, 0), ('top', 0, 0))])

    def test_marks(self):
        context = ("A", "", "B", 0, 3, False)
        for rule in (Rule(1, mark="x", page=True), Rule(1, mark="x", out=True), Rule(1, above="x", space=2), Rule(1, above="x", kept=True),
                     Rule(1, mark="x", measure=1)):
            style = style_of(rule, length=3)
            for kind in "AB":
                for standing in standings(3):
                    self.check(style, FLAT, kind, ("x", context, standing), ("", context, standing), 6)
                    self.check(style, FLAT, kind, ("", context, standing), ("xy", context, TOP), 6)

    def test_left_out_in_one(self):
        style, context = style_of(Rule(1, mark="x", out=True)), ("A", "", "B", 0, 3, False)
        told = self.check(style, FLAT, "A", ("x", context, OPEN), ("", context, TOP), 6)
        self.assertEqual(told, [(OPEN, OPEN), (OPEN, TOP)])
        told = self.check(style, FLAT, "A", ("x", context, OPEN), ("x", context, TOP), 6)
        self.assertEqual(told, [(OPEN, TOP)])

    def test_equal_triples(self):
        style = style_of(Rule(1, kind="B", kept=True), length=3)
        told = ("", style.root_context(), TOP)
        for one, two in self.check(style, FLAT, "A", told, told, 6):
            self.assertEqual(one, two)

    def test_random_ones(self):
        chance = random.Random(241)
        faces = [Face([DOT, HOOK]), Face([DOT, BAR]), Face([DOT, HOOK], 2)]
        for number in range(80):
            style, grammar = random_style(chance, [FACE] if number % 2 else faces), random_grammar(chance)
            kind = chance.choice(grammar.trimmed().kinds)
            new, old = [
                (chance.choice(["", "x", "y", "xy"]), chance.choice(CONTEXTS), chance.choice(standings(style.length))) for _ in range(2)
            ]
            self.check(style, grammar, kind, new, old, 6 if number % 2 else 4)

    def test_refused(self):
        style, context = style_of(), ("A", "", "B", 0, 3, False)
        good = ("", context, TOP)
        self.check_error(BadGrammar, {"kind": "A"}, own_ends, style, NO_MANUSCRIPT, "C", ("", context, 1), ("", context, 2))
        self.check_error(BadGrammar, {"kind": "C"}, own_ends, style, FLAT, "C", ("", context, 1), ("", context, 2))
        for wrong in (1, None, ["top", 0, 0], ("open", True, 0), ("kept", 2, 2)):
            self.check_error(BadStanding, {"standing": wrong}, own_ends, style, FLAT, "B", ("", context, wrong), ("", context, 2))
            self.check_error(BadStanding, {"standing": wrong}, own_ends, style, FLAT, "B", good, ("", context, wrong))

    def test_lists_are_new(self):
        told = ("", style_of().root_context(), TOP)
        own_ends(style_of(), FLAT, "A", told, told).clear()
        self.assertEqual(len(own_ends(style_of(), FLAT, "A", told, told)), 2)


class TestEditEnds(Case):
    def check(self, style, grammar, deed, kind, marks, context, standing, most, spent=3):
        """All ends, compared with all edits of all pieces that cost at most so much."""
        told = edit_ends(style, grammar, deed, kind, marks, context, standing)
        trimmed = grammar.trimmed()
        numbers = {end: number for end, number, _, _ in told}
        self.assertEqual(list(numbers), in_order(numbers))
        self.assertEqual(len(numbers), len(told))
        for end, number, piece, edit in told:
            self.check_row(style, trimmed, (deed, kind, marks, context, standing), end, number, piece, edit)
        for piece in all_pieces(trimmed, kind, marks, most, style.faces[0].letters):
            for edit in each_edit(trimmed, piece, deed, spent, style.faces[0].letters):
                if is_held(piece, edit):
                    done = Edited(style, piece, edit, context, standing)
                    self.assertIn(done.ends, numbers)
                    if numbers[done.ends] is not None:
                        self.assertLessEqual(done.counted, numbers[done.ends])
        return [row[:2] for row in told]

    def check_row(self, style, grammar, asked, end, number, piece, edit):
        deed, kind, marks, context, standing = asked
        new = edit.apply(piece)
        self.assertEqual((edit.DEED, piece.kind, piece.marks, new.marks), (deed, kind, marks, marks))
        self.assertTrue(is_held(piece, edit))
        self.assertTrue(is_complete(grammar, piece) and is_complete(grammar, new))
        done = Edited(style, piece, edit, context, standing)
        self.assertEqual(done.ends, end)
        if number is not None and number <= 60:
            self.assertEqual(done.counted, number)

    def test_examples(self):
        grammar = Grammar("A", {"A": (1, [(0, "B", "", 0)], [0]), "B": None})
        face = Face([[[(0, 0), (1, 0), (1, 1), (0, 1)]]])
        style = Style(Sheet([Rule(1, kind="B", space=1)]), [face])
        context = ("A", "", "B", 0, 3, False)
        told = edit_ends(style, grammar, "words", "A", "", style.root_context(), ("top", 0, 0))
        self.assertEqual([row[:2] for row in told], [((('open', 1, 0), ('top', 0, 0)), 0), (None, 1)])
        self.assertEqual(edit_ends(style, grammar, "parts", "B", "", context, ("top", 0, 0)), [])

    def test_words_of_a_block(self):
        style, context = style_of(length=3), ("A", "", "B", 0, 3, False)
        for standing in standings(3):
            told = self.check(style, FLAT, "words", "B", "x", context, standing, 7, 6)
            self.assertEqual({number for _, number in told}, {0})
        told = edit_ends(style, FLAT, "words", "B", "x", context, TOP)
        for _, _, _, edit in told:
            self.assertEqual((type(edit), edit.path), (Words, ()))

    def test_the_own_marks_of_a_piece(self):
        style = style_of(Rule(1, mark="x", page=True))
        for kind, marks in (("B", "x"), ("B", "y"), ("A", "xy")):
            told = edit_ends(style, FLAT, "marks", kind, marks, style.root_context(), OPEN)
            self.assertEqual([row[:2] for row in told], [(None, 0)])
            self.assertEqual(told[0][3].marks, told[0][2].piece_at(told[0][3].path).marks)
        told = edit_ends(style, FLAT, "marks", "B", "x", style.root_context(), OPEN)
        self.assertEqual(told[0][2:], (Block("B", "x"), Marks((), "x")))

    def test_marks(self):
        for rule in (Rule(1, mark="x", page=True), Rule(1, mark="x", space=1), Rule(1, mark="x", out=True), Rule(1, mark="x", kept=True)):
            style = style_of(rule, length=3)
            told = self.check(style, MARKED, "marks", "A", "", style.root_context(), TOP, 7)
            self.assertIn(None, [number for _, number in told])

    def test_parts(self):
        for rules in ((), (Rule(1, elder="B", space=1),), (Rule(1, elder="B", page=True),), (Rule(1, elder="", kept=True),)):
            style = style_of(*rules)
            self.check(style, FLAT, "parts", "A", "", style.root_context(), TOP, 7, 4)

    def test_steps_that_cannot_be_taken_twice(self):
        # A second B could not be put in, and none can be dropped; C can.
        grammar = Grammar("A", {
            "A": (3, [(0, "B", "", 1), (1, "C", "", 2), (2, "B", "x", 2), (1, "B", "x", 2)], [2]), "B": None, "C": (1, [(0, "B", "", 0)], [0]),
        })
        style = style_of()
        told = self.check(style, grammar, "parts", "A", "", style.root_context(), TOP, 7, 3)
        self.assertTrue(told)
        single = Grammar("A", {"A": (2, [(0, "B", "", 1)], [1]), "B": None})
        self.assertEqual(self.check(style, single, "parts", "A", "", style.root_context(), TOP, 6), [])
        self.assertEqual([end for end, _ in self.check(style, single, "words", "A", "", style.root_context(), TOP, 6)], [(OPEN, TOP), None])

    def test_left_out_and_gone(self):
        style = style_of(Rule(1, mark="x", out=True))
        for deed in DEEDS:
            for context, marks in ((style.root_context(), "x"), (("", "", "", 0, 3, True), "")):
                self.assertEqual(self.check(style, FLAT, deed, "A", marks, context, OPEN, 6), [(None, 0)])

    def test_without_blocks(self):
        grammar = Grammar("A", {"A": (1, [(0, "A", "", 0), (0, "A", "x", 0)], [0])})
        style = style_of(Rule(1, mark="x", page=True))
        self.assertEqual(self.check(style, grammar, "words", "A", "", style.root_context(), OPEN, 5), [])
        self.assertEqual(self.check(style, grammar, "marks", "A", "", style.root_context(), OPEN, 4), [((OPEN, TOP), 0), (None, 0)])
        self.assertEqual(self.check(style, grammar, "parts", "A", "", style.root_context(), OPEN, 4), [((OPEN, TOP), 0), (None, 0)])

    def test_random_ones(self):
        chance = random.Random(242)
        numbers = []
        for _ in range(60):
            style, grammar = random_style(chance, [FACE]), random_grammar(chance)
            kind = chance.choice(grammar.trimmed().kinds)
            asked = (kind, chance.choice(["", "x", "y", "xy"]), chance.choice(CONTEXTS), chance.choice(standings(style.length)))
            for deed in DEEDS:
                told = self.check(style, grammar, deed, *asked, 5)
                numbers += [number for _, number in told]
        self.assertGreater(numbers.count(None), 20)
        self.assertGreater(len([number for number in numbers if number is not None and number > 0]), 10)

    def test_two_faces(self):
        chance = random.Random(243)
        faces = [Face([DOT, HOOK]), Face([DOT, BAR]), Face([DOT, HOOK], 2)]
        for _ in range(40):
            style, grammar = random_style(chance, faces), random_grammar(chance)
            asked = (chance.choice(grammar.trimmed().kinds), "", chance.choice(CONTEXTS), chance.choice(standings(style.length)))
            for deed in DEEDS:
                for row in edit_ends(style, grammar, deed, *asked):
                    self.check_row(style, grammar.trimmed(), (deed,) + asked, *row)

    def test_refused(self):
        style, context = style_of(), ("A", "", "B", 0, 3, False)
        for deed in DEEDS:
            self.check_error(BadGrammar, {"kind": "A"}, edit_ends, style, NO_MANUSCRIPT, deed, "C", "", context, 1)
            self.check_error(BadGrammar, {"kind": "C"}, edit_ends, style, FLAT, deed, "C", "", context, 1)
            for wrong in (1, None, ["top", 0, 0], ("open", True, 0), ("kept", 2, 2)):
                self.check_error(BadStanding, {"standing": wrong}, edit_ends, style, FLAT, deed, "B", "", context, wrong)

    def test_lists_are_new(self):
        style = style_of()
        edit_ends(style, FLAT, "words", "A", "", style.root_context(), TOP).clear()
        self.assertEqual(len(edit_ends(style, FLAT, "words", "A", "", style.root_context(), TOP)), 2)
