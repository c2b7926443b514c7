import random

from helpers import BAR, DOT, Case, random_style
from plainly import all_pieces, each_context
from test_grammar import random_rows

from pressalike.contexts import Entries, agree, dead_rules, rule_shown
from pressalike.errors import BadGrammar, BadRule
from pressalike.faces import Face
from pressalike.grammar import Grammar
from pressalike.pieces import Block, Inner
from pressalike.rules import VALUE_NAMES, Rule
from pressalike.sheets import Sheet
from pressalike.styles import Style
from pressalike.treetext import write_tree

FACE = Face([DOT])
FLAT = Grammar("A", {"A": (1, [(0, "B", "", 0)], [0]), "B": None})
MARKED = Grammar("A", {"A": (1, [(0, "B", marks, 0) for marks in ("", "x", "y")], [0]), "B": None})
NESTED = Grammar("A", {"A": (1, [(0, "A", "x", 0), (0, "B", "", 0), (0, "B", "y", 0)], [0]), "B": None})
NO_MANUSCRIPT = Grammar("A", {"A": (1, [(0, "A", "", 0)], []), "B": None})


def style_of(*rules, **named):
    return Style(Sheet(rules), [FACE], **named)


def plain_entries(grammar, styles, most):
    """A dict from each entry of a manuscript without words that costs at most so much to the least such cost."""
    found = {}
    for tree in all_pieces(grammar, grammar.root, "", most):
        rows = [list(each_context(style.sheet, tree, style.root_context())) for style in styles]
        for at, (path, piece) in enumerate(tree.each_piece()):
            entry = (piece.kind, piece.marks) + tuple(row[at][2] for row in rows)
            found[entry] = min(found.get(entry, tree.cost), tree.cost)
    return found


def entry_at(styles, tree, path):
    told = [
        [context for at, _, context in each_context(style.sheet, tree, style.root_context()) if at == path][0]
        for style in styles
    ]
    piece = tree.piece_at(path)
    return (piece.kind, piece.marks) + tuple(told)


class TestEntries(Case):
    def check(self, grammar, styles, most):
        entries = Entries(grammar, *styles)
        rows = list(entries)
        self.assertEqual(rows, sorted(rows))
        self.assertEqual((len(set(rows)), len(entries)), (len(rows), len(rows)))
        wanted = plain_entries(grammar, styles, most)
        self.assertLessEqual(set(wanted), set(rows))
        for entry in rows:
            tree, path = entries.shown(entry)
            self.assertTrue(grammar.fits(tree))
            self.assertEqual(entry_at(styles, tree, path), entry)
            if tree.cost <= most:
                self.assertEqual(wanted[entry], tree.cost)
            else:
                self.assertNotIn(entry, wanted)
        return entries

    def test_example(self):
        entries = Entries(FLAT, style_of(Rule(1, kind="A", measure=2)))
        self.assertEqual(list(entries), [
            ('A', '', ('', '', '', 0, 3, False)), ('B', '', ('A', '', '', 0, 2, False)), ('B', '', ('A', '', 'B', 0, 2, False)),
        ])
        tree, path = entries.shown(("B", "", ("A", "", "B", 0, 2, False)))
        self.assertEqual((write_tree(tree), path), ('A{B[] B[]}', (1,)))

    def test_no_style(self):
        entries = self.check(NESTED, [], 6)
        self.assertEqual(list(entries), [("A", ""), ("A", "x"), ("B", ""), ("B", "y")])
        self.assertEqual(entries.shown(("B", "y")), (Inner("A", "", [Block("B", "y")]), (0,)))

    def test_one_style(self):
        entries = self.check(NESTED, [style_of(Rule(1, above="x", measure=5), Rule(2, mark="x", face=1))], 6)
        self.assertIn(("B", "y", ("A", "x", "A", 1, 3, False)), list(entries))
        self.assertIn(("A", "x", ("A", "x", "B", 1, 3, False)), list(entries))
        self.assertIn(("A", "x", ("A", "x", "", 1, 5, False)), list(entries))

    def test_two_styles(self):
        one, two = style_of(Rule(1, elder="A", measure=1)), style_of(Rule(1, kind="A", parent="A", out=True), measure=6)
        entries = self.check(NESTED, [one, two], 6)
        self.assertEqual(list(entries)[0], ("A", "", ("", "", "", 0, 3, False), ("", "", "", 0, 6, False)))
        self.assertIn(("B", "", ("A", "x", "", 0, 1, False), ("A", "x", "", 0, 6, True)), list(entries))

    def test_contexts_that_are_gone(self):
        entries = self.check(NESTED, [style_of(Rule(1, kind="A", mark="x", out=True), Rule(2, mark="y", out=False))], 6)
        self.assertIn(("B", "y", ("A", "x", "B", 0, 3, True)), list(entries))
        self.assertIn(("A", "x", ("A", "x", "", 0, 3, True)), list(entries))
        self.assertEqual({entry[2][5] for entry in entries if entry[2][1] == ""}, {False})
        self.assertEqual({entry[2][5] for entry in entries if entry[2][1] == "x"}, {True})

    def test_endless_kinds_and_rooms_without_an_end(self):
        grammar = Grammar("A", {
            "A": (3, [(0, "B", "", 0), (0, "B", "x", 1), (0, "C", "", 0), (2, "B", "y", 0)], [0]),
            "B": None, "C": (1, [(0, "C", "", 0)], []),
        })
        entries = self.check(grammar, [style_of()], 6)
        self.assertEqual(list(entries), [
            ("A", "", ("", "", "", 0, 3, False)), ("B", "", ("A", "", "", 0, 3, False)), ("B", "", ("A", "", "B", 0, 3, False)),
        ])

    def test_kinds_that_no_manuscript_has(self):
        grammar = Grammar("B", {"A": (1, [(0, "B", "", 0)], [0]), "B": None, "C": (1, [(0, "C", "x", 0)], [0])})
        self.assertEqual(list(Entries(grammar, style_of())), [("B", "", ("", "", "", 0, 3, False))])
        self.assertEqual(list(Entries(grammar)), [("B", "")])

    def test_a_part_that_only_comes_late(self):
        grammar = Grammar("A", {
            "A": (3, [(0, "B", "", 1), (1, "C", "", 2), (2, "B", "x", 0), (1, "B", "y", 1)], [0, 2]), "B": None, "C": (1, [], [0]),
        })
        entries = self.check(grammar, [style_of()], 6)
        self.assertEqual(write_tree(entries.shown(("B", "x", ("A", "", "C", 0, 3, False)))[0]), "A{B[] C{} Bx[]}")
        self.assertEqual(entries.shown(("B", "", ("A", "", "B", 0, 3, False)))[1], (3,))

    def test_a_deep_part_that_costs_more_than_one_behind_others(self):
        grammar = Grammar("A", {
            "A": (3, [(0, "B", "y", 1), (1, "A", "x", 2), (0, "B", "", 2)], [0, 2]),
            "B": (1, [(0, "C", "", 0)], [0]), "C": (1, [(0, "A", "x", 0)], [0]),
        })
        entries = self.check(grammar, [], 6)
        self.assertEqual(write_tree(entries.shown(("A", "x"))[0]), "A{By{} Ax{}}")

    def test_a_front_that_is_cheaper_by_another_way(self):
        grammar = Grammar("A", {
            "A": (3, [(0, "B", "", 1), (0, "C", "", 2), (1, "B", "x", 0), (2, "B", "x", 0)], [0]), "B": None,
            "C": (3, [(0, "B", "", 1), (1, "B", "", 2)], [2]),
        })
        entries = self.check(grammar, [style_of()], 7)
        self.assertEqual(entries.shown(("B", "", ("A", "", "B", 0, 3, False)))[0].cost, 5)

    def test_what_is_no_entry(self):
        entries = Entries(FLAT, style_of())
        for entry in (
            ("A", ""), ("B", "x", ("A", "", "", 0, 3, False)), ("B", "", ("A", "", "", 0, 2, False)), ("A", "", ("", "", "", 0, 3, True)),
            ("C", "", ("A", "", "B", 0, 3, False)), (), ("A", "", ("", "", "", 0, 3, False), ("", "", "", 0, 3, False)),
        ):
            self.assertIsNone(entries.shown(entry))

    def test_no_manuscript(self):
        for styles in ((), (style_of(),), (style_of(), style_of())):
            self.check_error(BadGrammar, {"kind": "A"}, Entries, NO_MANUSCRIPT, *styles)
        self.check_error(BadGrammar, {"kind": "A"}, dead_rules, style_of(), NO_MANUSCRIPT)

    def test_random_ones(self):
        chance = random.Random(41)
        told = 0
        while told < 120:
            grammar = Grammar("A", random_rows(chance))
            if "A" not in grammar.endless():
                styles = [random_style(chance) for _ in range(chance.randrange(3))]
                self.check(grammar, styles, 5)
                told += 1


class TestRules(Case):
    def shown(self, style, grammar, place):
        name, tree, path = rule_shown(style, grammar, place)
        self.assertTrue(grammar.fits(tree))
        _, piece, context = [row for row in each_context(style.sheet, tree, style.root_context()) if row[0] == path][0]
        self.assertFalse(context[5])
        self.assertEqual(style.sheet.winner(piece.kind, piece.marks, context, name), place)
        if name != "out":
            self.assertFalse(style.sheet.values_of(piece.kind, piece.marks, context)[5])
        return name

    def check(self, style, grammar, dead):
        self.assertEqual(dead_rules(style, grammar), dead)
        for place in range(len(style.sheet)):
            if place in dead:
                self.assertIsNone(rule_shown(style, grammar, place))
            else:
                self.assertIn(self.shown(style, grammar, place), VALUE_NAMES)

    def test_example(self):
        style = style_of(Rule(1, kind="B", space=1), Rule(2, parent="A", space=2))
        self.assertEqual(dead_rules(style, FLAT), [0])
        self.assertTrue(agree(style, style.with_sheet(style.sheet.without(0)), FLAT))

    def test_no_rules(self):
        self.check(style_of(), FLAT, [])

    def test_rules_that_never_match(self):
        rules = [Rule(1, kind="C", space=1), Rule(1, mark="x", kept=True), Rule(1, parent="B", page=True), Rule(1, above="y", out=True)]
        self.check(style_of(*rules), FLAT, [0, 1, 2, 3])
        self.check(style_of(Rule(1, elder="A", measure=2), Rule(1, elder="B", measure=2)), FLAT, [0])
        self.check(style_of(Rule(1, kind="A", parent="A", face=1), Rule(1, kind="A", face=1)), FLAT, [0])

    def test_rules_that_are_always_beaten(self):
        self.check(style_of(Rule(3, kind="B", measure=2, space=1), Rule(3, measure=1), Rule(9, kind="B", space=2)), FLAT, [0])
        self.check(style_of(Rule(2, kind="B", space=1), Rule(1, space=1)), FLAT, [])
        self.check(style_of(Rule(2, space=1), Rule(1, space=1)), FLAT, [1])

    def test_a_rule_that_sets_nothing_new_is_live(self):
        self.check(style_of(Rule(0, space=0, kept=False, face=0, measure=3)), FLAT, [])

    def test_rules_at_pieces_that_are_left_out(self):
        self.check(style_of(Rule(1, kind="B", out=True), Rule(1, kind="B", space=1)), FLAT, [1])
        self.check(style_of(Rule(1, mark="x", out=True), Rule(1, mark="x", page=True), Rule(1, mark="y", page=True)), MARKED, [1])

    def test_rules_beneath_pieces_that_are_left_out(self):
        self.check(style_of(Rule(1, kind="A", out=True), Rule(5, kind="B", space=2), Rule(5, kind="B", out=False)), FLAT, [1, 2])
        self.check(style_of(Rule(1, mark="x", out=True), Rule(1, above="x", out=False, kept=True)), NESTED, [1])

    def test_rules_that_set_out(self):
        self.check(style_of(Rule(1, kind="B", out=False)), FLAT, [])
        self.check(style_of(Rule(1, kind="B", out=False), Rule(1, out=True, kind="B")), FLAT, [0])

    def test_the_places_are_those_of_the_sheet(self):
        rules = [Rule(1, kind="C", space=at % 3) for at in range(6)]
        self.assertEqual(dead_rules(style_of(*rules), FLAT), [0, 1, 2, 3, 4, 5])
        rules[3] = Rule(0, space=1)
        self.assertEqual(dead_rules(style_of(*rules), FLAT), [0, 1, 2, 4, 5])

    def test_refused(self):
        style = style_of(Rule(1, space=1), Rule(1, kind="C", space=1))
        for place in (-1, 2, 10 ** 20, True, False, None, "0", 0.0, (0,), [0]):
            self.check_error(BadRule, {"place": place}, rule_shown, style, FLAT, place)
            self.check_error(BadRule, {"place": place}, rule_shown, style, NO_MANUSCRIPT, place)
        self.check_error(BadRule, {"place": 0}, rule_shown, style_of(), FLAT, 0)
        for place in (0, 1):
            self.check_error(BadGrammar, {"kind": "A"}, rule_shown, style, NO_MANUSCRIPT, place)

    def test_random_ones(self):
        chance = random.Random(42)
        told = 0
        while told < 100:
            grammar = Grammar("A", random_rows(chance))
            if "A" in grammar.endless():
                continue
            told += 1
            style = random_style(chance)
            live = set()
            for kind, marks, context in Entries(grammar, style):
                is_out = style.sheet.values_of(kind, marks, context)[5]
                for name in VALUE_NAMES:
                    if not context[5] and (name == "out" or not is_out):
                        live.add(style.sheet.winner(kind, marks, context, name))
            self.check(style, grammar, [place for place in range(len(style.sheet)) if place not in live])


class TestAgree(Case):
    def test_without_dead_rules(self):
        chance = random.Random(43)
        told = 0
        while told < 60:
            grammar = Grammar("A", random_rows(chance))
            if "A" in grammar.endless():
                continue
            style = random_style(chance)
            dead = dead_rules(style, grammar)
            sheet = Sheet([rule for place, rule in enumerate(style.sheet) if place not in dead])
            self.assertTrue(agree(style, style.with_sheet(sheet), grammar))
            self.assertEqual(dead_rules(style.with_sheet(sheet), grammar), [])
            told += len(dead) > 0

    def test_unlike_fields(self):
        two = Style(Sheet([]), [FACE, FACE])
        style = style_of()
        self.assertTrue(agree(style, style_of(), FLAT))
        self.assertTrue(agree(two, Style(Sheet([]), [Face([DOT]), FACE]), FLAT))
        for other in (
            style_of(length=3), style_of(measure=4), Style(Sheet([]), [Face([DOT], 2)]), two, Style(Sheet([]), [Face([BAR])]),
            style_of(Rule(1, space=1)), style_of(Rule(1, page=True, kind="A")),
        ):
            self.assertFalse(agree(style, other, FLAT))
            self.assertFalse(agree(other, style, FLAT))

    def test_values_of_inner_pieces_count(self):
        self.assertFalse(agree(style_of(), style_of(Rule(1, kind="A", kept=True)), FLAT))
        self.assertFalse(agree(style_of(), style_of(Rule(1, kind="A", measure=2), Rule(1, kind="B", measure=3)), FLAT))

    def test_unlike_measures_that_no_piece_keeps(self):
        rule = Rule(0, measure=4)
        self.assertTrue(agree(style_of(rule, measure=1), style_of(rule, measure=6), FLAT))
        self.assertFalse(agree(style_of(Rule(0, kind="B", measure=4), measure=1), style_of(rule, measure=6), FLAT))

    def test_values_of_what_is_left_out_do_not_count(self):
        out = Rule(1, kind="B", out=True)
        self.assertTrue(agree(style_of(out), style_of(out, Rule(1, kind="B", space=2, page=True)), FLAT))
        for other in (style_of(), style_of(Rule(1, kind="B", space=2))):
            self.assertFalse(agree(style_of(out), other, FLAT))
            self.assertFalse(agree(other, style_of(out), FLAT))

    def test_what_is_gone_in_both_does_not_count(self):
        out = Rule(1, mark="x", out=True)
        self.assertTrue(agree(style_of(out), style_of(out, Rule(1, above="x", space=2)), NESTED))

    def test_gone_in_one_only(self):
        one = style_of(Rule(1, mark="x", out=True))
        two = style_of(Rule(1, mark="x", out=True), Rule(1, above="x", out=True))
        self.assertTrue(agree(one, two, NESTED))
        self.assertFalse(agree(one, style_of(Rule(1, above="x", out=True)), NESTED))

    def test_unlike_places_of_like_rules(self):
        rules = [Rule(1, kind="A", measure=2), Rule(2, kind="B", space=1)]
        self.assertTrue(agree(style_of(*rules), style_of(*rules[::-1]), FLAT))
        self.assertFalse(agree(style_of(*rules), style_of(rules[0]), FLAT))

    def test_only_what_occurs_counts(self):
        self.assertTrue(agree(style_of(), style_of(Rule(1, kind="C", space=1), Rule(1, mark="x", out=True)), FLAT))

    def test_no_manuscript(self):
        for other in (style_of(), style_of(length=3), Style(Sheet([]), [FACE, FACE]), Style(Sheet([]), [Face([DOT, BAR])])):
            self.check_error(BadGrammar, {"kind": "A"}, agree, style_of(), other, NO_MANUSCRIPT)
