import random

from helpers import DOT, Case, random_grammar, random_manuscript, random_style
from plainly import gates_at, plain_runs

from pressalike.errors import NotOfGrammar
from pressalike.faces import Face
from pressalike.gates import Gates
from pressalike.grammar import Grammar
from pressalike.rules import Rule
from pressalike.seams import cut, gates_of
from pressalike.sheets import Sheet
from pressalike.styles import Style
from pressalike.treetext import read_tree

FACE = Face([DOT])
MARKED = Grammar("A", {"A": (1, [(0, "B", "", 0), (0, "B", "x", 0)], [0]), "B": None})
NESTED = Grammar("A", {"A": (1, [(0, "A", "x", 0), (0, "A", "y", 0), (0, "B", "", 0)], [0]), "B": None})


def gates_with(grammar, *rules, **named):
    return Gates(Style(Sheet(rules), [FACE], **named), grammar)


class TestCut(Case):
    def check(self, gates, tree):
        told = cut(gates, tree)
        self.assertEqual(told, plain_runs(gates, tree))
        self.assertEqual(gates_of(gates, tree), [row[:2] for row in gates_at(gates.style, gates.grammar, tree)])
        return told

    def test_examples(self):
        grammar = Grammar("A", {"A": (1, [(0, "B", "", 0), (0, "B", "x", 0)], [0]), "B": None})
        style = Style(Sheet([Rule(1, mark="x", page=True)]), [Face([[[(0, 0), (1, 0), (1, 1), (0, 1)]]])])
        gates = Gates(style, grammar)
        tree = read_tree("A{B[a] B[] Bx[a] B[a]}")
        self.assertEqual(cut(gates, tree), [(0, 2), (2, 4)])
        self.assertEqual(gates_of(gates, tree)[2], ((1,), (0, 'B', '', ('A', '', 'B', 0, 3, False))))

    def test_0_is_always_a_cut(self):
        gates = gates_with(MARKED)
        self.assertEqual(self.check(gates, read_tree("A{B[a] B[a] Bx[a]}")), [(0, 3)])
        self.assertEqual(self.check(gates, read_tree("A{B[]}")), [(0, 1)])

    def test_without_blocks(self):
        self.assertEqual(self.check(gates_with(MARKED), read_tree("A{}")), [(0, 0)])
        self.assertEqual(self.check(gates_with(NESTED, Rule(1, mark="x", page=True)), read_tree("A{Ax{} Ax{Ay{}}}")), [(0, 0)])

    def test_blocks_left_out(self):
        gates = gates_with(MARKED, Rule(1, mark="x", page=True), Rule(1, kind="B", out=True))
        self.assertEqual(self.check(gates, read_tree("A{B[a] Bx[a] B[] Bx[]}")), [(0, 1), (1, 2), (2, 3), (3, 4)])
        gates = gates_with(MARKED, Rule(1, mark="x", page=True, out=True))
        self.assertEqual(self.check(gates, read_tree("A{B[a] Bx[a] B[] Bx[]}")), [(0, 4)])

    def test_beneath_what_is_left_out(self):
        # What is left out stands only where a page has just begun; so all beneath it, and the block behind it, are seams.
        grammar = Grammar("A", {
            "A": (1, [(0, "B", "", 0), (0, "C", "", 0)], [0]), "B": None, "C": (2, [(0, "A", "x", 1), (1, "B", "", 1)], [1]),
        })
        gates = gates_with(grammar, Rule(1, kind="C", page=True), Rule(1, mark="x", out=True))
        tree = read_tree("A{B[a] C{Ax{B[a] B[a]} B[a]} B[a]}")
        self.assertEqual(self.check(gates, tree), [(0, 1), (1, 2), (2, 3), (3, 5)])
        gone = [path for path, gate in gates_of(gates, tree) if gate[3][5] and gates.seam(gate)]
        self.assertEqual(gone, [(1, 0, 0), (1, 0, 1)])

    def test_seams_behind_the_last_block(self):
        gates = gates_with(NESTED, Rule(1, mark="x", page=True))
        self.assertEqual(self.check(gates, read_tree("A{B[a] Ax{}}")), [(0, 1)])
        self.assertEqual(self.check(gates, read_tree("A{B[a] Ax{} Ax{B[]}}")), [(0, 1), (1, 2)])

    def test_random_ones(self):
        chance = random.Random(311)
        runs = 0
        for _ in range(80):
            style, grammar = random_style(chance, [FACE]), random_grammar(chance)
            if len(style.sheet) < 6:
                style = style.with_sheet(style.sheet.with_rule(Rule(9, mark=chance.choice("xy"), page=True)))
            gates = Gates(style, grammar)
            for _ in range(6):
                runs += len(self.check(gates, random_manuscript(chance, grammar)))
        self.assertGreater(runs, 550)

    def test_refused(self):
        gates = gates_with(MARKED)
        for text, path in (("B{}", ()), ("A{B[] By[] C[]}", (1,)), ("A{B{}}", (0,)), ("Ax{}", ())):
            self.check_error(NotOfGrammar, {"path": path}, cut, gates, read_tree(text))
            self.check_error(NotOfGrammar, {"path": path}, gates_of, gates, read_tree(text))

    def test_lists_are_new(self):
        gates, tree = gates_with(MARKED), read_tree("A{B[a]}")
        cut(gates, tree).clear()
        gates_of(gates, tree).clear()
        self.assertEqual((cut(gates, tree), len(gates_of(gates, tree))), ([(0, 1)], 2))
