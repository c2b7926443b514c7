import random

from helpers import BAR, DOT, DOT_INK, Case, random_piece, random_style, some_faces
from plainly import block_rows, each_context, plain_setting

from pressalike.contexts import Entries, dead_rules
from pressalike.faces import Face
from pressalike.grammartext import read_grammar, write_grammar
from pressalike.pieces import Block, Inner
from pressalike.prints import Print
from pressalike.rules import Rule
from pressalike.setter import block_settings, block_stamps, print_tree, standing_before
from pressalike.sheets import Sheet
from pressalike.sheettext import read_sheet, write_sheet
from pressalike.styles import Style
from pressalike.treetext import read_tree, write_tree

FACE = Face([DOT])
TOP = ("top", 0, 0)
PLAIN = (0, 3, 0, False, False, False)


def style_of(*rules, faces=(FACE,), **named):
    return Style(Sheet(rules), faces, **named)


def dues(style, text):
    return [due for _, due in block_settings(style, read_tree(text))]


def places(style, text):
    return [[line[:2] for line in lines] for lines in print_tree(style, read_tree(text)).blocks]


def random_manuscript(chance, grammar, kind=None, marks="", levels=4):
    """A random manuscript of a grammar in which room 0 of each kind is final."""
    kind = kind or grammar.root
    if grammar.has_blocks(kind):
        return Block(kind, marks, ["a"] * chance.randrange(5))
    parts, room = [], 0
    while levels > 1 and (chance.random() < 0.8 or not grammar.is_final(kind, room)):
        part, part_marks, room = chance.choice(grammar.steps(kind, room))
        parts.append(random_manuscript(chance, grammar, part, part_marks, levels - 1))
    return Inner(kind, marks, parts)


class TestExamples(Case):
    def test_examples(self):
        sheet = Sheet([Rule(1, mark="x", kept=True)])
        style = Style(sheet, [Face([[[(0, 0), (1, 0), (1, 1), (0, 1)]]])])
        tree = read_tree("A{B[a] Bx[a] B[a a a]}")
        self.assertEqual(block_settings(style, tree)[1], ((0, 3, 0, True, False, False), False))
        ink = ("#...", "....", "....", "....")
        told = block_stamps(style, (0, 3, 0, False, False, False), ["a", "a", "a"])
        self.assertEqual(told, (((ink, 0), (ink, 2)), ((ink, 0),)))
        self.assertEqual(standing_before(style, tree), [('top', 0, 0), ('open', 1, 0), ('kept', 2, 1)])
        lines = [(line[0], line[1], len(line[2])) for line in print_tree(style, tree)]
        self.assertEqual(lines, [(True, 0, 1), (True, 0, 1), (False, 1, 2), (True, 0, 1)])


class TestSettings(Case):
    def test_values(self):
        style = style_of(Rule(1, kind="A", measure=5, face=1), Rule(2, mark="x", space=2), Rule(2, elder="B", kept=True))
        told = block_settings(style, read_tree("A{Bx[] B[] C{Bx[]}}"))
        self.assertEqual(told, [
            ((1, 5, 2, False, False, False), False), ((1, 5, 0, True, False, False), False), ((1, 5, 2, False, False, False), False),
        ])

    def test_no_block(self):
        self.assertEqual(block_settings(style_of(Rule(1, page=True)), read_tree("A{C{} C{}}")), [])

    def test_one_block_as_root(self):
        self.assertEqual(block_settings(style_of(), read_tree("A[a]")), [(PLAIN, False)])
        style = style_of(Rule(1, kind="A", page=True))
        self.assertEqual(block_settings(style, read_tree("A[]")), [((0, 3, 0, False, True, False), True)])

    def test_due_at_the_root_and_at_inner_pieces(self):
        style = style_of(Rule(1, mark="x", page=True))
        self.assertEqual(dues(style, "A{B[] B[]}"), [False, False])
        self.assertEqual(dues(style, "A{Bx[] B[]}"), [True, False])
        self.assertEqual(dues(style, "A{B[] Cx{B[] B[]}}"), [False, True, False])
        self.assertEqual(dues(style_of(Rule(1, kind="A", page=True)), "A{C{B[] B[]}}"), [True, False])

    def test_due_behind_inner_pieces_without_parts(self):
        style = style_of(Rule(1, mark="x", page=True))
        self.assertEqual(dues(style, "A{Cx{} B[]}"), [True])
        self.assertEqual(dues(style, "A{B[] Cx{C{}} C{Cx{}} B[] B[]}"), [False, True, False])
        self.assertEqual(dues(style, "A{B[] Cx{}}"), [False])

    def test_due_at_blocks_that_are_left_out(self):
        style = style_of(Rule(1, mark="x", page=True), Rule(1, mark="y", out=True))
        out = (0, 3, 0, False, False, True)
        both = (0, 3, 0, False, True, True)
        self.assertEqual(block_settings(style, read_tree("A{Cx{} By[] B[]}")), [(out, True), (PLAIN, False)])
        self.assertEqual(block_settings(style, read_tree("A{Bxy[] B[]}")), [(both, False), (PLAIN, False)])
        self.assertEqual(block_settings(style, read_tree("A{Cy{Bx[]} B[]}")), [(both, False), (PLAIN, False)])
        self.assertEqual(dues(style, "A{Cxy{B[]} B[]}"), [False, False])
        self.assertEqual(dues(style, "A{Cy{Cx{}} B[]}"), [False])

    def test_random_ones(self):
        chance = random.Random(101)
        for _ in range(400):
            style, tree = random_style(chance), random_piece(chance, 5)
            self.assertEqual(block_settings(style, tree), [row[:2] for row in block_rows(style, tree)])

    def test_each_list_is_new(self):
        tree = read_tree("A{B[a]}")
        block_settings(style_of(), tree).clear()
        standing_before(style_of(), tree).clear()
        self.assertEqual((len(block_settings(style_of(), tree)), len(standing_before(style_of(), tree))), (1, 1))


class TestStamps(Case):
    def test_columns_count_from_the_line(self):
        style = style_of(faces=[Face([DOT, BAR])], measure=6)
        long = ("###.", "....", "....", "....")
        told = block_stamps(style, (0, 6, 0, False, False, False), ["ab", "a", "b"])
        self.assertEqual(told, (((DOT_INK, 0), (long, 2)), ((DOT_INK, 0), (long, 2))))

    def test_faces(self):
        style = style_of(faces=[Face([DOT]), Face([BAR])])
        long = ("###.", "....", "....", "....")
        self.assertEqual(block_stamps(style, (0, 3, 0, False, False, False), ("a",)), (((DOT_INK, 0),),))
        self.assertEqual(block_stamps(style, (1, 3, 0, False, False, False), ("a",)), (((long, 0),),))
        self.assertEqual(block_stamps(style_of(), (1, 3, 0, False, False, False), ("a",)), (((DOT_INK, 0),),))

    def test_no_lines(self):
        self.assertEqual(block_stamps(style_of(), PLAIN, []), ())
        self.assertEqual(block_stamps(style_of(), (0, 3, 0, False, False, True), ["a", "a"]), ())

    def test_the_words_stay(self):
        words = ["a", "a"]
        block_stamps(style_of(), PLAIN, words)
        self.assertEqual(words, ["a", "a"])

    def test_random_ones(self):
        chance = random.Random(102)
        faces = [face for face in some_faces() if len(face.letters) == 4]
        for _ in range(200):
            style, tree = random_style(chance, faces), random_piece(chance, 3, "abcd")
            for values, _, words, lines in block_rows(style, tree):
                self.assertEqual(block_stamps(style, values, words), lines)


class TestEntries(Case):
    def test_blocks_that_are_left_out(self):
        style = style_of(Rule(1, mark="y", out=True))
        tree = read_tree("A{By[a] B[a] By[a] B[] Cy{B[a]}}")
        self.assertEqual(standing_before(style, tree), [None, TOP, None, ("open", 1, 0), None])

    def test_blocks_without_words(self):
        style = style_of(Rule(1, mark="x", page=True))
        tree = read_tree("A{B[] B[a] B[] Bx[] B[] B[a]}")
        self.assertEqual(standing_before(style, tree), [TOP, TOP, ("open", 1, 0), TOP, TOP, TOP])

    def test_a_new_page_of_an_inner_piece(self):
        style = style_of(Rule(1, kind="C", page=True))
        self.assertEqual(standing_before(style, read_tree("A{B[a] C{} B[a] C{B[a]}}")), [TOP, TOP, TOP])

    def test_a_new_page_due_at_a_block_that_is_left_out(self):
        style = style_of(Rule(1, kind="C", page=True), Rule(1, mark="y", out=True))
        self.assertEqual(standing_before(style, read_tree("A{B[a] C{By[a]} B[a]}")), [TOP, None, TOP])
        self.assertEqual(standing_before(style, read_tree("A{B[a] Cy{B[a]} B[a]}")), [TOP, None, ("open", 1, 0)])

    def test_no_block(self):
        self.assertEqual(standing_before(style_of(), read_tree("A{}")), [])


class TestPrint(Case):
    def test_one_block_as_root(self):
        self.assertEqual(print_tree(style_of(), read_tree("A[a]")), Print([[(True, 0, ((DOT_INK, 0),))]]))
        self.assertEqual(print_tree(style_of(), read_tree("A[]")), Print([[]]))
        self.assertEqual(print_tree(style_of(Rule(1, out=True)), read_tree("A[a]")), Print([[]]))

    def test_no_block(self):
        self.assertEqual(print_tree(style_of(), read_tree("A{C{}}")), Print([]))

    def test_space_and_kept_of_inner_pieces_mean_nothing(self):
        style = style_of(Rule(1, kind="C", space=2, kept=True), length=4)
        self.assertEqual(places(style, "A{B[a] C{B[a]} B[a]}"), [[(True, 0)], [(False, 1)], [(False, 2)]])

    def test_space(self):
        style = style_of(Rule(1, mark="x", space=2), length=4, measure=1)
        self.assertEqual(places(style, "A{Bx[a] Bx[] B[a] Bx[a a]}"), [[(True, 0)], [], [(False, 1)], [(True, 0), (False, 1)]])

    def test_a_new_page_at_the_end_is_none(self):
        style = style_of(Rule(1, kind="C", page=True))
        self.assertEqual(places(style, "A{B[a] C{} C{}}"), [[(True, 0)]])
        self.assertEqual(places(style, "A{B[a] C{} C{} B[a]}"), [[(True, 0)], [(True, 0)]])

    def test_pending_lines_stay_at_the_end_and_ahead_of_a_new_page(self):
        style = style_of(Rule(1, mark="x", kept=True), Rule(1, kind="C", page=True))
        self.assertEqual(places(style, "A{B[a] Bx[a]}"), [[(True, 0)], [(False, 1)]])
        self.assertEqual(places(style, "A{B[a] Bx[a] B[a]}"), [[(True, 0)], [(True, 0)], [(False, 1)]])
        self.assertEqual(places(style, "A{B[a] Bx[a] C{B[a]}}"), [[(True, 0)], [(False, 1)], [(True, 0)]])

    def test_deep_trees(self):
        style = style_of(Rule(1, above="x", measure=5), Rule(2, mark="y", page=True))
        for levels in (10, 60, 200):
            tree = Block("B", "y", ["a", "a"])
            for level in range(levels - 1):
                tree = Inner("C", "x" if level == levels // 2 else "", [tree])
            self.assertEqual(block_settings(style, tree), [((0, 5, 0, False, True, False), True)])
            self.assertEqual(len(print_tree(style, tree)), 1)

    def test_rules_that_beat_one_another(self):
        style = style_of(Rule(1, kind="B", measure=1), Rule(3, measure=4), Rule(3, mark="x", measure=5), Rule(2, mark="x", measure=2))
        told = [values[1] for values, _ in block_settings(style, read_tree("A{B[] Bx[] By[]}"))]
        self.assertEqual(told, [4, 5, 4])

    def test_random_ones(self):
        chance = random.Random(103)
        faces = [face for face in some_faces() if len(face.letters) == 2]
        for _ in range(600):
            style, tree = random_style(chance, faces), Inner("A", "", [random_piece(chance, 4, "ab") for _ in range(8)])
            text = write_tree(tree)
            entries, blocks = plain_setting(style, tree)
            self.assertEqual(standing_before(style, tree), entries)
            self.assertEqual(print_tree(style, tree).blocks, blocks)
            self.assertEqual(write_tree(tree), text)

    def test_texts_that_are_read_back(self):
        chance = random.Random(104)
        for _ in range(100):
            style, tree = random_style(chance), random_piece(chance, 5)
            again = style.with_sheet(read_sheet(write_sheet(style.sheet)))
            self.assertEqual(print_tree(again, read_tree(write_tree(tree))), print_tree(style, tree))
        grammar = read_grammar("root A\nA 1 0>B>0 0>Bx>0 0>C>0 ends 0\nB words\nC 1 0>B>0 ends 0")
        style = style_of(Rule(1, kind="C", page=True))
        for entry in Entries(grammar, style):
            tree = read_tree(write_tree(Entries(read_grammar(write_grammar(grammar)), style).shown(entry)[0]))
            self.assertEqual(len(print_tree(style, tree).blocks), len(list(tree.each_block())))

    def test_without_dead_rules(self):
        grammar = read_grammar("root A\nA 2 0>B>0 0>Bx>1 0>C>0 1>C>1 0>Cy>0 ends 0 1\nB words\nC 1 0>B>0 0>By>0 0>C>0 ends 0")
        chance = random.Random(105)
        told = 0
        while told < 60:
            style = random_style(chance)
            dead = dead_rules(style, grammar)
            told += len(dead) > 0
            without = style.with_sheet(Sheet([rule for place, rule in enumerate(style.sheet) if place not in dead]))
            for _ in range(20):
                tree = random_manuscript(chance, grammar)
                self.assertEqual(print_tree(without, tree), print_tree(style, tree))


class TestPlainly(Case):
    def test_contexts_have_the_values_of_the_sheet(self):
        style = style_of(Rule(1, above="x", out=True))
        rows = list(each_context(style.sheet, read_tree("A{Cx{B[]} B[]}"), style.root_context()))
        self.assertEqual([row[2][5] for row in rows], [False, False, False, False])
        self.assertEqual(rows[2][2], ("C", "x", "", 0, 3, False))
