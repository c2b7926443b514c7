import random

from helpers import BAR, DOT, HOOK, Case, random_grammar, random_style
from plainly import all_pieces, gates_at

from pressalike.errors import BadGrammar
from pressalike.faces import Face
from pressalike.gates import Gates
from pressalike.grammar import Grammar
from pressalike.rules import Rule
from pressalike.sheets import Sheet
from pressalike.styles import Style
from pressalike.treetext import write_tree

FACE = Face([DOT])
TOP, OPEN = ("top", 0, 0), ("open", 1, 0)
FLAT = Grammar("A", {"A": (1, [(0, "B", "", 0)], [0]), "B": None})
MARKED = Grammar("A", {"A": (1, [(0, "B", "", 0), (0, "B", "x", 0)], [0]), "B": None})
NESTED = Grammar("A", {"A": (1, [(0, "A", "x", 0), (0, "B", "", 0)], [0]), "B": None})
NO_MANUSCRIPT = Grammar("A", {"A": (1, [(0, "A", "", 0)], []), "B": None})


def style_of(*rules, faces=(FACE,), **named):
    return Style(Sheet(rules), faces, **named)


class TestGates(Case):
    def check(self, style, grammar, most):
        """The gates, compared with those of all manuscripts that cost at most so much."""
        gates = Gates(style, grammar)
        self.assertEqual((gates.style, gates.grammar), (style, grammar))
        self.assertEqual(list(gates), sorted(set(gates)))
        self.assertEqual(len(gates), len(list(gates)))
        costs = {}
        for tree in all_pieces(grammar.trimmed(), grammar.root, "", most, style.faces[0].letters):
            for _, gate, arrival in gates_at(style, grammar, tree):
                costs[(gate, arrival)] = min(costs.get((gate, arrival), tree.cost), tree.cost)
        found = {(gate, arrival) for gate in gates for arrival in gates.arrivals(gate)}
        self.assertLessEqual(set(costs), found)
        for gate, arrival in found:
            tree, path = gates.shown(gate, arrival)
            self.assertTrue(grammar.fits(tree))
            self.assertIn((path, gate, arrival), gates_at(style, grammar, tree))
            if tree.cost <= most or (gate, arrival) in costs:
                self.assertEqual(costs[(gate, arrival)], tree.cost)
        self.check_arrivals(gates)
        return gates

    def check_arrivals(self, gates):
        for gate in gates:
            arrivals = gates.arrivals(gate)
            self.assertTrue(arrivals)
            self.assertEqual(arrivals, sorted(set(arrivals)))
            is_seam = len(arrivals) == 1 and arrivals[0][2] == 0
            self.assertEqual(gates.seam(gate), arrivals[0] if is_seam else None)
        root = (0, gates.grammar.root, "", gates.style.root_context())
        self.assertEqual((gates.arrivals(root), gates.seam(root)), ([TOP], TOP))

    def test_example(self):
        grammar = Grammar("A", {"A": (1, [(0, "B", "", 0), (0, "B", "x", 0)], [0]), "B": None})
        style = Style(Sheet([Rule(1, mark="x", page=True)]), [Face([[[(0, 0), (1, 0), (1, 1), (0, 1)]]])])
        gates = Gates(style, grammar)
        self.assertEqual(
            (len(gates), gates.arrivals((0, "B", "", ("A", "", "B", 0, 3, False)))), (5, [('open', 1, 0), ('top', 0, 0)]))
        self.assertEqual(gates.seam((0, "B", "x", ("A", "", "B", 0, 3, False))), ('top', 0, 0))
        tree, path = gates.shown((0, "B", "", ("A", "", "B", 0, 3, False)), ("open", 1, 0))
        self.assertEqual((tree.cost, path), (5, (1,)))

    def test_small_grammars(self):
        for rules in ((), (Rule(1, kind="B", kept=True),), (Rule(1, mark="x", page=True),), (Rule(1, mark="x", out=True),), (Rule(1, elder="B", space=1),)):
            for length in (2, 3):
                for grammar in (FLAT, MARKED, NESTED):
                    self.check(style_of(*rules, length=length), grammar, 7)

    def test_rooms(self):
        grammar = Grammar("A", {
            "A": (3, [(0, "B", "", 1), (1, "B", "", 2), (2, "B", "", 1), (2, "C", "", 0)], [2]), "B": None, "C": (2, [(0, "B", "x", 1)], [0, 1]),
        })
        gates = self.check(style_of(Rule(1, kind="C", page=True)), grammar, 8)
        self.assertEqual({gate[0] for gate in gates if gate[1] == "B" and gate[2] == ""}, {0, 1, 2})
        # The first room is come to at the beginning, and behind a C.
        self.assertEqual({gate[3][2] for gate in gates if gate[:3] == (0, "B", "")}, {"", "C"})
        self.assertEqual(gates.seam((2, "C", "", ("A", "", "B", 0, 3, False))), TOP)

    def test_steps_that_no_manuscript_takes(self):
        grammar = Grammar("A", {
            "A": (3, [(0, "B", "", 0), (0, "B", "x", 1), (0, "C", "", 0), (2, "B", "y", 0)], [0]), "B": None, "C": (1, [(0, "C", "", 0)], []),
        })
        gates = self.check(style_of(), grammar, 7)
        # There is no end from room 1, no way to room 2, and no C.
        self.assertEqual({gate[:3] for gate in gates}, {(0, "A", ""), (0, "B", "")})
        self.assertEqual(gates.arrivals((0, "B", "x", ("A", "", "", 0, 3, False))), [])
        self.assertIsNone(gates.seam((0, "C", "", ("A", "", "", 0, 3, False))))

    def test_beneath_what_is_left_out(self):
        gates = self.check(style_of(Rule(1, mark="x", out=True, page=True)), NESTED, 8)
        gone = [gate for gate in gates if gate[3][5]]
        self.assertTrue(gone)
        # A piece that is left out makes no new page due: the standing is as it is there.
        self.assertEqual(gates.arrivals((0, "A", "x", ("A", "", "B", 0, 3, False))), [OPEN, TOP])
        self.assertEqual(gates.arrivals((0, "B", "", ("A", "x", "B", 0, 3, True))), [OPEN, TOP])
        self.assertEqual(gates.seam((0, "A", "x", ("A", "", "", 0, 3, False))), TOP)

    def test_gates_that_are_no_seams(self):
        grammar = Grammar("A", {"A": (3, [(0, "B", "", 1), (1, "C", "", 2)], [2]), "B": None, "C": None})
        for rule, wanted in ((Rule(1, kind="B", kept=True), [("kept", 1, 0), TOP]), (Rule(1, kind="A", space=1), [OPEN, TOP])):
            gates = self.check(style_of(rule, length=2), grammar, 8)
            self.assertEqual([gates.arrivals(gate) for gate in gates if gate[1] == "C"], [wanted])
            self.assertEqual([gates.seam(gate) for gate in gates if gate[1] == "C"], [None])

    def test_not_shown(self):
        gates = Gates(style_of(), FLAT)
        gate = (0, "B", "", ("A", "", "", 0, 3, False))
        self.assertEqual(gates.arrivals(gate), [TOP])
        for standing in (OPEN, ("open", 2, 0), ["top", 0, 0], None):
            self.assertIsNone(gates.shown(gate, standing))
        self.assertIsNone(gates.shown((1,) + gate[1:], TOP))
        self.assertEqual(write_tree(gates.shown(gate, TOP)[0]), "A{B[]}")

    def test_blocks_as_manuscripts(self):
        gates = self.check(style_of(Rule(1, kind="A", page=True)), Grammar("A", {"A": None}), 6)
        self.assertEqual(list(gates), [(0, "A", "", ("", "", "", 0, 3, False))])

    def test_random_ones(self):
        chance = random.Random(301)
        for _ in range(80):
            self.check(random_style(chance, [FACE]), random_grammar(chance), 6)

    def test_two_faces(self):
        chance = random.Random(302)
        faces = [Face([DOT, HOOK]), Face([DOT, BAR]), Face([DOT, HOOK], 2)]
        for _ in range(40):
            self.check(random_style(chance, faces), random_grammar(chance), 5)

    def test_refused(self):
        self.check_error(BadGrammar, {"kind": "A"}, Gates, style_of(), NO_MANUSCRIPT)

    def test_lists_are_new(self):
        gates = Gates(style_of(), FLAT)
        gate = (0, "B", "", ("A", "", "B", 0, 3, False))
        gates.arrivals(gate).clear()
        self.assertEqual(gates.arrivals(gate), [OPEN, TOP])
