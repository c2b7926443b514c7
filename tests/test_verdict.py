import random

from helpers import BAR, DOT, FOOT, HOOK, Case, random_grammar, random_manuscript, random_piece, random_style
from plainly import all_pieces, joint_walk

from pressalike.errors import BadGrammar, BadStyle
from pressalike.faces import Face
from pressalike.grammar import Grammar
from pressalike.joinedrows import summaries
from pressalike.joint import alike_at_end, joint_begin
from pressalike.pieces import Block, Inner
from pressalike.rules import Rule
from pressalike.setter import print_tree
from pressalike.sheets import Sheet
from pressalike.styles import Style
from pressalike.treetext import read_tree, write_tree
from pressalike.verdict import Verdict, compare_styles, first_unlike, joint_run

FACE = Face([DOT])
WORDS = Grammar("A", {"A": None})
FLAT = Grammar("A", {"A": (1, [(0, "B", "", 0)], [0]), "B": None})
MARKED = Grammar("A", {"A": (1, [(0, "B", "", 0), (0, "B", "x", 0)], [0]), "B": None})
NESTED = Grammar("A", {"A": (1, [(0, "A", "x", 0), (0, "B", "", 0)], [0]), "B": None})
NO_MANUSCRIPT = Grammar("A", {"A": (1, [(0, "A", "", 0)], []), "B": None})


def style_of(*rules, faces=(FACE,), **named):
    return Style(Sheet(rules), faces, **named)


class VerdictCase(Case):
    def check(self, one, two, grammar, most):
        """The verdict, compared with all manuscripts that cost at most so much; it is the same in either order."""
        told = compare_styles(one, two, grammar)
        self.assertIsInstance(told, Verdict)
        self.assertIs(compare_styles(two, one, grammar).is_alike, told.is_alike)
        trees = all_pieces(grammar.trimmed(), grammar.root, "", most, one.faces[0].letters)
        unlike = [tree.cost for tree in trees if print_tree(one, tree) != print_tree(two, tree)]
        if told.is_alike:
            self.assertEqual((told.manuscript, told.place, unlike), (None, None, []))
            self.check_table(one, two, grammar, told.table(), trees)
        else:
            self.assertTrue(grammar.fits(told.manuscript))
            self.assertEqual(told.place, first_unlike(one, two, told.manuscript))
            self.assertIsNotNone(told.place)
            self.assertEqual(told.table(), [])
            self.assertEqual([cost for cost in unlike if cost < told.manuscript.cost], [])
            self.assertEqual(told.manuscript.cost <= most, unlike != [])
        return told

    def check_table(self, one, two, grammar, rows, trees):
        self.assertEqual(rows, sorted(set(rows)))
        self.assertEqual(set(rows), {key + (behind,) for key, row in summaries(one, two, grammar).items() for behind in row})
        for tree in trees[:200]:
            self.assertLessEqual({row[1:] for row in joint_run(one, two, tree)}, set(rows))

    def alike(self, one, two, grammar=FLAT, most=8):
        self.assertIs(self.check(one, two, grammar, most).is_alike, True)

    def unlike(self, one, two, cost, place, grammar=FLAT, most=8):
        told = self.check(one, two, grammar, most)
        self.assertIs(told.is_alike, False)
        self.assertEqual((told.manuscript.cost, told.place), (cost, place))
        return told.manuscript


class TestExamples(VerdictCase):
    def test_examples(self):
        face = Face([[[(0, 0), (1, 0), (1, 1), (0, 1)]]])
        one, two = Style(Sheet([]), [face], measure=1), Style(Sheet([]), [face], measure=3)
        told = compare_styles(one, two, Grammar("A", {"A": None}))
        self.assertEqual(
            (told.is_alike, write_tree(told.manuscript), told.manuscript.cost, told.place), (False, 'A[a a]', 5, ((), 0)))


class TestAlike(VerdictCase):
    def test_equal_styles(self):
        for style in (style_of(), style_of(Rule(1, kind="B", kept=True), length=3), style_of(Rule(1, mark="x", page=True), length=4)):
            for grammar in (WORDS, FLAT, MARKED, NESTED):
                self.alike(style, style, grammar, 7)

    def test_rules_that_make_no_difference(self):
        one = style_of(Rule(2, kind="B", space=1))
        for rule in (Rule(1, kind="B", space=2), Rule(3, kind="A", space=2), Rule(3, mark="y", out=True), Rule(3, kind="B", face=1),
                     Rule(3, kind="A", page=True), Rule(0, out=False), Rule(9, kind="C", measure=1)):
            self.alike(one, one.with_sheet(one.sheet.with_rule(rule)))

    def test_values_of_what_is_left_out(self):
        out = Rule(5, mark="x", out=True)
        for rule in (Rule(1, mark="x", page=True), Rule(1, mark="x", measure=1), Rule(1, above="x", page=True)):
            self.alike(style_of(out), style_of(out, rule), MARKED, 7)
            self.alike(style_of(out), style_of(out, rule), NESTED, 7)

    def test_spaces_that_fall_away(self):
        # Every block begins a page, so that the space ahead of it falls away.
        one = style_of(Rule(1, kind="B", page=True))
        self.alike(one, one.with_sheet(one.sheet.with_rule(Rule(1, kind="B", space=2))))
        self.alike(style_of(Rule(1, kind="B", space=1)), style_of(Rule(1, kind="B", space=2)))

    def test_faces_put_otherwise(self):
        other = Face([FOOT])
        one = style_of(Rule(1, kind="A", face=1), faces=[FACE, other])
        self.alike(one, style_of(faces=[other]))
        self.alike(one, style_of(Rule(1, kind="B", face=0), faces=[other, FACE]))
        self.alike(style_of(), style_of(faces=[FACE, other]))
        self.alike(style_of(faces=[Face([FOOT], 1)]), style_of(faces=[Face([FOOT], 2)]).with_sheet(Sheet([])), Grammar("A", {
            "A": (1, [], [0])}))

    def test_faces_whose_words_are_alike(self):
        # The blanks of two feet are never too few, whatever the distance; so the faces are unlike, but not the words.
        low, high = Face([[[(0, 0), (1, 0), (1, 1), (0, 1)]], [[(0, 3), (1, 3), (1, 4), (0, 4)]]], 0), Face([DOT, DOT], 0)
        self.assertNotEqual(low, high)
        self.unlike(style_of(faces=[low]), style_of(faces=[high]), 4, ((0,), 0), most=5)

    def test_what_no_manuscript_has(self):
        grammar = Grammar("A", {"A": (1, [(0, "B", "", 0), (0, "C", "", 0)], [0]), "B": None, "C": (1, [(0, "C", "", 0)], [])})
        self.alike(style_of(), style_of(Rule(1, kind="C", page=True), Rule(1, elder="C", space=2)), grammar)
        self.alike(style_of(), style_of(measure=1, length=4), Grammar("A", {"A": (1, [(0, "A", "", 0)], [0])}))


class TestUnlike(VerdictCase):
    def test_space(self):
        tree = self.unlike(style_of(length=3), style_of(Rule(1, kind="B", space=1), length=3), 7, ((1,), 0))
        self.assertEqual(write_tree(tree), "A{B[a] B[a]}")

    def test_kept(self):
        tree = self.unlike(style_of(), style_of(Rule(1, elder="B", kept=True)), 10, ((1,), 0), most=10)
        self.assertEqual(write_tree(tree), "A{B[a] B[a] B[a]}")

    def test_page(self):
        tree = self.unlike(style_of(), style_of(Rule(1, mark="x", page=True)), 7, ((1,), 0), MARKED)
        self.assertEqual(write_tree(tree), "A{B[a] Bx[a]}")

    def test_out(self):
        tree = self.unlike(style_of(), style_of(Rule(1, mark="x", out=True)), 4, ((0,), 0), MARKED)
        self.assertEqual(write_tree(tree), "A{Bx[a]}")

    def test_measure(self):
        self.assertEqual(write_tree(self.unlike(style_of(), style_of(measure=2), 6, ((0,), 0))), "A{B[a a]}")

    def test_length(self):
        # None of the three lines may stand on another page than the one before it.
        self.assertEqual(write_tree(self.unlike(style_of(length=3), style_of(length=4), 12, ((1,), 0), most=9)), "A{B[a] B[a aa a]}")

    def test_face(self):
        tree = self.unlike(style_of(faces=[FACE, Face([BAR])]), style_of(Rule(1, kind="B", face=1), faces=[FACE, Face([BAR])]), 4, ((0,), 0))
        self.assertEqual(write_tree(tree), "A{B[a]}")
        one, two = style_of(faces=[Face([DOT], 0)]), style_of(faces=[Face([DOT], 1)])
        self.assertEqual(write_tree(self.unlike(one, two, 5, ((0,), 0))), "A{B[aa]}")

    def test_only_behind_several_blocks(self):
        grammar = Grammar("A", {
            "A": (3, [(0, "B", "", 1), (1, "B", "", 2), (2, "B", "", 2), (2, "B", "x", 2)], [0, 1, 2]), "B": None,
        })
        tree = self.unlike(style_of(length=4), style_of(Rule(1, mark="x", kept=True), length=4), 16, ((2,), 0), grammar, 8)
        self.assertEqual(len(tree), 4)

    def test_only_at_the_end(self):
        # The block that goes over, or not, is pending in one style until the end.
        one = style_of(Rule(1, elder="B", space=1), Rule(2, mark="x", kept=True), length=4)
        two = style_of(Rule(1, elder="B", space=1), Rule(2, mark="x", kept=True), Rule(3, mark="x", space=2), length=4)
        told = self.check(one, two, MARKED, 8)
        self.assertEqual((write_tree(told.manuscript), told.place), ("A{B[a] Bx[a]}", ((1,), 0)))

    def test_pieces_in_pieces(self):
        one, two = style_of(Rule(1, above="x", measure=2)), style_of(Rule(1, mark="x", measure=2), Rule(2, parent="A", mark="x", elder="A", measure=3))
        told = self.check(one, two, NESTED, 8)
        self.assertEqual((write_tree(told.manuscript), told.place), ("A{Ax{} Ax{B[a a]}}", ((1, 0), 0)))

    def test_three_styles_of_which_two_are_alike(self):
        one, two = style_of(Rule(1, kind="B", space=1)), style_of(Rule(1, kind="B", space=2))
        three = style_of()
        self.alike(one, two)
        self.unlike(one, three, 7, ((1,), 0))
        self.unlike(two, three, 7, ((1,), 0))
        self.assertNotEqual(one, two)


class TestRandom(VerdictCase):
    def styles(self, chance, faces):
        """Two styles that are often alike or nearly so."""
        one = random_style(chance, faces)
        two = random_style(chance, faces)
        if chance.random() < 0.85:
            rules = list(one.sheet)[:5]
            chance.shuffle(rules)
            two = Style(Sheet(rules + list(two.sheet)[:1]), one.faces, length=one.length, measure=one.measure)
        return one, two

    def test_one_letter(self):
        chance = random.Random(201)
        told = []
        for _ in range(60):
            one, two = self.styles(chance, [FACE])
            told.append(self.check(one, two, random_grammar(chance), 6).is_alike)
        self.assertGreater(told.count(True), 15)
        self.assertGreater(told.count(False), 5)

    def test_two_letters(self):
        chance = random.Random(202)
        faces = [Face([DOT, HOOK]), Face([DOT, HOOK], 2), Face([DOT, BAR])]
        told = []
        for _ in range(40):
            one, two = self.styles(chance, faces)
            told.append(self.check(one, two, random_grammar(chance), 5).is_alike)
        self.assertGreater(told.count(True), 5)
        self.assertGreater(told.count(False), 5)

    def test_the_least_cost_of_what_is_not_alike_at_the_end(self):
        chance = random.Random(203)
        for _ in range(40):
            one, two = self.styles(chance, [FACE])
            grammar = random_grammar(chance)
            row = summaries(one, two, grammar)[("A", "", one.root_context(), two.root_context(), joint_begin())]
            costs = [cost for behind, (cost, _) in row.items() if not alike_at_end(behind)]
            told = compare_styles(one, two, grammar)
            self.assertEqual([told.manuscript.cost] if costs else [], [min(costs)] if costs else [])
            self.assertIs(told.is_alike, not costs)


class TestFirstUnlike(VerdictCase):
    def test_places(self):
        one, two = style_of(), style_of(Rule(1, mark="x", space=1), Rule(2, mark="y", out=True), length=2)
        for text, place in (("A{B[a] B[a]}", None), ("A{B[a] Bx[a]}", ((1,), 0)), ("A{B[a] Bx[a a a]}", None),
                            ("A{B[a] A{By[a a a]}}", ((1, 0), 0)), ("A{By[]}", None), ("A[]", None), ("A{}", None)):
            self.assertEqual(first_unlike(one, two, read_tree(text)), place)

    def test_a_later_line(self):
        one, two = style_of(), style_of(measure=1)
        self.assertEqual(first_unlike(one, two, read_tree("A{B[a aa aa aa]}")), None)
        self.assertEqual(first_unlike(one, two, read_tree("A{B[aa a a]}")), ((0,), 1))
        # One print lacks the line.
        self.assertEqual(first_unlike(style_of(measure=6), two, read_tree("A{B[aaa aaa]}")), None)
        self.assertEqual(first_unlike(style_of(length=4), style_of(length=2), read_tree("A{B[aa aa aa]}")), ((0,), 2))

    def test_against_prints(self):
        chance = random.Random(204)
        for _ in range(300):
            one, two = random_style(chance), random_style(chance)
            tree = Inner("A", "", [random_piece(chance, 3) for _ in range(3)])
            prints = print_tree(one, tree), print_tree(two, tree)
            told = first_unlike(one, two, tree)
            self.assertIs(told is None, prints[0] == prints[1])
            if told is not None:
                at = [path for path, _ in tree.each_block()].index(told[0])
                self.assertEqual(prints[0].blocks[:at], prints[1].blocks[:at])
                lines = [told_print.blocks[at] for told_print in prints]
                self.assertEqual(lines[0][:told[1]], lines[1][:told[1]])
                self.assertNotEqual(lines[0][told[1]:told[1] + 1], lines[1][told[1]:told[1] + 1])


class TestJointRun(VerdictCase):
    def test_against_walking_through(self):
        chance = random.Random(205)
        faces = [Face([DOT, HOOK]), Face([DOT, HOOK], 2), Face([DOT, BAR])]
        parted = 0
        for _ in range(300):
            one = random_style(chance, faces)
            two = one if chance.random() < 0.4 else random_style(chance, faces)
            tree = Inner("A", "", [random_piece(chance, 3, "ab") for _ in range(3)])
            told = joint_run(one, two, tree)
            self.assertEqual([row[0] for row in told], [path for path, _ in tree.each_piece()])
            self.assertEqual([row[1:3] for row in told], [(piece.kind, piece.marks) for _, piece in tree.each_piece()])
            wanted = []
            behind = joint_walk(one, two, tree, one.root_context(), two.root_context(), joint_begin(), wanted)
            self.assertEqual(told[0][6], behind)
            self.assertEqual(sorted(map(repr, [row[1:] for row in told])), sorted(map(repr, [row[:6] for row in wanted])))
            parted += behind == "parted"
        self.assertGreater(parted, 50)
        self.assertLess(parted, 250)

    def test_words_left_out_in_one(self):
        one, two = style_of(Rule(1, mark="x", out=True)), style_of(Rule(1, mark="x", page=True))
        told = joint_run(one, two, read_tree("A{B[a] Bx[] Bx[a]}"))
        self.assertEqual([row[6] for row in told][1:], [
            (("open", 1, 0), (), ("open", 1, 0), (), ()), (("open", 1, 0), (), ("top", 0, 0), (), ()), "parted"])

    def test_deep_ones(self):
        tree = Block("B", "", ["a"])
        for _ in range(199):
            tree = Inner("A", "", [tree])
        self.assertEqual(len(joint_run(style_of(), style_of(length=3), tree)), 200)

    def test_manuscripts_of_the_verdicts(self):
        chance = random.Random(206)
        for _ in range(40):
            grammar = random_grammar(chance)
            one = random_style(chance)
            told = compare_styles(one, one, grammar)
            rows = set(told.table())
            for _ in range(5):
                self.assertLessEqual({row[1:] for row in joint_run(one, one, random_manuscript(chance, grammar))}, rows)


class TestRefused(VerdictCase):
    def test_faces_come_first(self):
        other = style_of(faces=[Face([DOT, BAR])])
        for pair in ((style_of(), other), (other, style_of())):
            self.check_error(BadStyle, {"field": "faces"}, compare_styles, *pair, NO_MANUSCRIPT)
            self.check_error(BadStyle, {"field": "faces"}, first_unlike, *pair, read_tree("A[]"))
            self.check_error(BadStyle, {"field": "faces"}, joint_run, *pair, read_tree("A[]"))

    def test_grammars(self):
        self.check_error(BadGrammar, {"kind": "A"}, compare_styles, style_of(), style_of(length=3), NO_MANUSCRIPT)

    def test_lists_are_new(self):
        told = compare_styles(style_of(), style_of(), FLAT)
        rows = told.table()
        told.table().clear()
        self.assertEqual(told.table(), rows)
        run = joint_run(style_of(), style_of(), read_tree("A[]"))
        run.clear()
        self.assertEqual(len(joint_run(style_of(), style_of(), read_tree("A[]"))), 1)
