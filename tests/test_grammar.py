import itertools
import random

from helpers import Case

from pressalike.errors import BadGrammar
from pressalike.grammar import Grammar
from pressalike.pieces import Block, Inner
from pressalike.treetext import read_tree

G = Grammar("A", {"A": (2, [(0, "B", "x", 1), (1, "C", "", 0)], [1]), "B": None, "C": (1, [(0, "C", "", 0)], [])})
LABELS = [(kind, marks) for kind in "ABC" for marks in ("", "x", "y", "xy")]


def row(*steps, rooms=1, finals=(0,)):
    return rooms, list(steps), list(finals)


def random_rows(chance):
    kinds = chance.choice(["A", "AB", "AB", "ABC", "ABC", "ABC", "AC"])
    rows = {}
    for kind in kinds:
        if chance.random() < 0.3:
            rows[kind] = None
            continue
        rooms = chance.randrange(1, 4)
        steps = []
        for room in range(rooms):
            labels = [label for label in LABELS if label[0] in kinds]
            for label in chance.sample(labels, chance.randrange(4)):
                steps.append((room,) + label + (chance.randrange(rooms),))
        finals = [room for room in range(rooms) if chance.random() < 0.4]
        rows[kind] = (rooms, steps, finals)
    return rows


def plain_wrong(grammar, tree, path, piece):
    """The words of [3.5] for one piece of a tree."""
    label = (piece.kind, piece.marks)
    if path == ():
        if label != (grammar.root, ""):
            return True
    else:
        parent, room = tree.piece_at(path[:-1]), 0
        for part in parent.parts[:path[-1]]:
            if room is not None:
                room = grammar.follow(parent.kind, room, (part.kind, part.marks))
        if room is not None and grammar.follow(parent.kind, room, label) is None:
            return True
    if piece.is_block:
        return not grammar.has_blocks(piece.kind)
    if grammar.rooms(piece.kind) == 0:
        return True
    room = 0
    for part in piece.parts:
        if room is not None:
            room = grammar.follow(piece.kind, room, (part.kind, part.marks))
    return room is not None and not grammar.is_final(piece.kind, room)


def plain_judge(grammar, tree):
    for path, piece in tree.each_piece():
        if plain_wrong(grammar, tree, path, piece):
            return path
    return None


def random_tree(chance, levels):
    kind, marks = chance.choice("ABC"), chance.choice(["", "", "x", "y", "xy"])
    if levels == 1 or chance.random() < 0.3:
        return Block(kind, marks)
    return Inner(kind, marks, [random_tree(chance, levels - 1) for _ in range(chance.randrange(4))])


def pieces_up_to(grammar, levels, parts):
    """All complete pieces without marks of so many levels and parts at most, by kind."""
    found = {kind: [] for kind in grammar.kinds}
    for kind in grammar.kinds:
        if grammar.has_blocks(kind):
            found[kind] = [Block(kind, "")]
    for _ in range(levels - 1):
        found = {kind: next_pieces(grammar, kind, parts, found) for kind in grammar.kinds}
    return found


def next_pieces(grammar, kind, parts, found):
    if grammar.has_blocks(kind):
        return [Block(kind, "")]
    told, rows = [], [((), 0)]
    for _ in range(parts + 1):
        told += [Inner(kind, "", way) for way, room in rows if grammar.is_final(kind, room)]
        rows = [
            (way + (marked(piece, marks),), target)
            for way, room in rows
            for part, marks, target in grammar.steps(kind, room)
            for piece in found[part][:2]
        ][:40]
    return told[:12]


def marked(piece, marks):
    return Block(piece.kind, marks, piece.words) if piece.is_block else Inner(piece.kind, marks, piece.parts)


class TestMaking(Case):
    def test_example(self):
        told = [G.follow("A", 0, ("B", "x")), G.judge(Inner("A", "", [Block("B", "")])), G.endless(), G.trimmed().kinds]
        self.assertEqual(told, [1, (0,), ('C',), ('A', 'B')])

    def test_fields(self):
        grammar = Grammar("B", {"C": None, "B": row((0, "C", "", 0))})
        self.assertEqual((grammar.root, grammar.kinds), ("B", ("B", "C")))

    def test_root_without_a_row(self):
        for root in ("B", "C", "D", "", "AA", "a"):
            self.check_error(BadGrammar, {"kind": root}, Grammar, root, {"A": None})
        self.check_error(BadGrammar, {"kind": "A"}, Grammar, "A", {})
        self.check_error(BadGrammar, {"kind": "C"}, Grammar, "C", {"A": row(rooms=9), "B": None})

    def wrong(self, rows_of_kind, rows=None):
        told = dict(rows or {"A": None})
        told["B"] = rows_of_kind
        self.check_error(BadGrammar, {"kind": "B"}, Grammar, "A", told)

    def test_numbers_of_rooms(self):
        for many in (0, 4, -1, True, False, None, 10 ** 9):
            self.wrong((many, [], []))
        for many in (1, 2, 3):
            self.assertEqual(Grammar("A", {"A": (many, [], [])}).rooms("A"), many)

    def test_rooms_of_steps(self):
        for room in (2, -1, 3, True, None):
            self.wrong((2, [(room, "A", "", 0)], []))
            self.wrong((2, [(0, "A", "", room)], []))
            self.wrong((2, [], [0, room]))
        self.assertEqual(Grammar("A", {"A": (3, [[2, "A", "", 2]], [2])}).follow("A", 2, ("A", "")), 2)

    def test_kinds_of_steps(self):
        for kind in ("C", "D", "", "AB", "b"):
            self.wrong((1, [(0, "A", "", 0), (0, kind, "", 0)], []))

    def test_marks_of_steps(self):
        for marks in ("yx", "z", "xx", " ", "A"):
            self.wrong((1, [(0, "A", marks, 0)], []))

    def test_two_steps_with_one_label(self):
        self.wrong((2, [(0, "A", "x", 0), (0, "A", "x", 1)], []))
        self.wrong((2, [(0, "A", "x", 1), (1, "A", "", 0), (0, "A", "x", 1)], []))
        grammar = Grammar("A", {"A": (2, [(0, "A", "x", 1), (1, "A", "x", 1), (0, "A", "", 1)], [])})
        self.assertEqual(len(grammar.steps("A", 0)), 2)

    def test_the_first_wrong_kind(self):
        bad = (4, [], [])
        self.check_error(BadGrammar, {"kind": "A"}, Grammar, "C", {"C": bad, "B": bad, "A": bad})
        self.check_error(BadGrammar, {"kind": "B"}, Grammar, "C", {"C": bad, "B": bad, "A": None})
        self.check_error(BadGrammar, {"kind": "C"}, Grammar, "C", {"C": bad, "A": None})

    def test_lists_and_tuples(self):
        one = Grammar("A", {"A": (2, ((0, "A", "", 1),), (1,))})
        two = Grammar("A", {"A": [2, [[0, "A", "", 1]], [1]]})
        self.assertEqual(one, two)
        self.assertEqual(two.steps("A", 0), (("A", "", 1),))

    def test_rows_that_are_changed_later(self):
        step, finals = [0, "B", "", 0], [0]
        steps = [step]
        rows = {"A": [1, steps, finals], "B": None}
        grammar = Grammar("A", rows)
        step[2] = "x"
        steps.append((0, "A", "", 0))
        finals.clear()
        rows["C"] = None
        rows["A"][0] = 3
        del rows["B"]
        self.assertEqual(grammar, Grammar("A", {"A": (1, [(0, "B", "", 0)], [0]), "B": None}))
        self.assertEqual((grammar.kinds, grammar.rooms("A"), grammar.steps("A", 0)), (("A", "B"), 1, (("B", "", 0),)))
        self.assertEqual(grammar.follow("A", 0, ("B", "")), 0)


class TestAsking(Case):
    def test_rows(self):
        told = [(G.has_blocks(kind), G.rooms(kind)) for kind in ("A", "B", "C", "D", "")]
        self.assertEqual(told, [(False, 2), (True, 0), (False, 1), (False, 0), (False, 0)])
        self.assertIs(G.has_blocks("B"), True)

    def test_follow(self):
        self.assertEqual(G.follow("A", 1, ("C", "")), 0)
        for kind, room, label in (("A", 0, ("B", "")), ("A", 1, ("B", "x")), ("A", 2, ("B", "x")), ("A", -1, ("C", "")),
                                  ("B", 0, ("B", "x")), ("D", 0, ("B", "x")), ("A", 0, ("C", ""))):
            self.assertIsNone(G.follow(kind, room, label))

    def test_is_final(self):
        told = [G.is_final("A", room) for room in (-1, 0, 1, 2)] + [G.is_final(kind, 0) for kind in "BCD"]
        self.assertEqual(told, [False, False, True, False, False, False, False])
        self.assertIs(G.is_final("A", 1), True)

    def test_steps(self):
        steps = [(1, "A", "", 0), (0, "B", "xy", 1), (0, "B", "y", 0), (0, "B", "x", 1), (0, "A", "y", 1), (0, "B", "", 1)]
        grammar = Grammar("A", {"A": (2, steps, [])   , "B": None})
        told = (("A", "y", 1), ("B", "", 1), ("B", "x", 1), ("B", "xy", 1), ("B", "y", 0))
        self.assertEqual(grammar.steps("A", 0), told)
        self.assertEqual(grammar.steps("A", 1), (("A", "", 0),))
        for kind, room in (("A", 2), ("A", -1), ("B", 0), ("C", 0)):
            self.assertEqual(grammar.steps(kind, room), ())


class TestJudge(Case):
    GRAMMAR = Grammar("A", {
        "A": (2, [(0, "B", "", 1), (1, "B", "x", 1), (1, "A", "y", 0)], [1]),
        "B": None,
        "C": (1, [], [0]),
    })

    def judged(self, text):
        path = self.GRAMMAR.judge(read_tree(text))
        self.assertIs(self.GRAMMAR.fits(read_tree(text)), path is None)
        return path

    def test_right(self):
        for text in ("A{B[]}", "A{B[a b] Bx[] Bx[a]}", "A{B[] Ay{B[]} B[]}"):
            self.assertIsNone(self.judged(text))

    def test_the_label_of_the_root(self):
        for text in ("Ax{B[]}", "B[]", "C{}", "Ay{B[]}"):
            self.assertEqual(self.judged(text), ())

    def test_the_label_of_a_part(self):
        self.assertEqual(self.judged("A{Bx[]}"), (0,))
        self.assertEqual(self.judged("A{B[] B[]}"), (1,))
        self.assertEqual(self.judged("A{B[] Ay{Bx[]} B[]}"), (1, 0))
        self.assertEqual(self.judged("A{B[] A{B[]}}"), (1,))

    def test_parts_behind_a_part_that_cannot_follow(self):
        # Nobody knows the room there, so only the first one is wrong by its label.
        tree = read_tree("A{C{} B[] Ay{Bx[]}}")
        self.assertEqual(self.GRAMMAR.judge(tree), (0,))
        wrong = [path for path, piece in tree.each_piece() if plain_wrong(self.GRAMMAR, tree, path, piece)]
        self.assertEqual(wrong, [(0,), (2, 0)])

    def test_blocks_and_inner_pieces(self):
        self.assertEqual(self.judged("A[]"), ())
        self.assertEqual(self.judged("A{B{}}"), (0,))
        self.assertEqual(self.judged("A{B[] Ay[] B[]}"), (1,))
        missing = Grammar("A", {"A": (1, [], [0])})
        self.assertEqual(missing.judge(read_tree("A{B[]}")), (0,))
        self.assertEqual(missing.judge(read_tree("B{}")), ())
        self.assertIsNone(missing.judge(read_tree("A{}")))

    def test_a_kind_of_blocks_with_parts(self):
        blocks = Grammar("A", {"A": None})
        self.assertEqual(blocks.judge(read_tree("A{}")), ())
        self.assertEqual(blocks.judge(read_tree("A{A[]}")), ())
        self.assertIsNone(blocks.judge(read_tree("A[a a]")))

    def test_the_end(self):
        self.assertEqual(self.judged("A{}"), ())
        self.assertEqual(self.judged("A{B[] Ay{B[]}}"), ())
        self.assertEqual(self.judged("A{B[] Ay{} B[]}"), (1,))

    def test_the_first_in_document_order(self):
        # The root ends in a room that is not final, and a part beneath it is wrong, too.
        self.assertEqual(self.judged("A{B[] Ay{Bx[]}}"), ())
        self.assertEqual(self.judged("A{B[] Ay{B{}} C{}}"), (1, 0))
        self.assertEqual(self.judged("A{B{} Bx{}}"), (0,))

    def test_against_the_words(self):
        chance = random.Random(7)
        told = set()
        for _ in range(2500):
            grammar = Grammar("A", random_rows(chance))
            tree = random_tree(chance, 4)
            path = plain_judge(grammar, tree)
            self.assertEqual(grammar.judge(tree), path)
            told.add(path if path is None else len(path))
        self.assertTrue({None, 0, 1, 2} <= told)

    def test_deep(self):
        grammar = Grammar("A", {"A": (1, [(0, "A", "", 0)], [0])})
        tree = Inner("A", "")
        for _ in range(199):
            tree = Inner("A", "", [tree])
        self.assertIsNone(grammar.judge(tree))
        tree = Inner("A", "", [Inner("A", "x")])
        for _ in range(60):
            tree = Inner("A", "", [tree])
        self.assertEqual(grammar.judge(tree), (0,) * 61)


class TestEndlessAndTrimmed(Case):
    def test_endless(self):
        rows = {
            "A": (2, [(0, "A", "", 0), (0, "B", "x", 1)], [1]),
            "B": (2, [(0, "C", "", 1)], [1]),
            "C": (1, [(0, "A", "", 0)], []),
        }
        self.assertEqual(Grammar("A", rows).endless(), ("A", "B", "C"))
        self.assertEqual(Grammar("A", dict(rows, C=None)).endless(), ())
        self.assertEqual(Grammar("A", dict(rows, B=None)).endless(), ("C",))
        self.assertEqual(Grammar("A", {"A": (1, [], [])}).endless(), ("A",))
        self.assertEqual(Grammar("A", {"A": (1, [], [0]), "C": (1, [], [])}).endless(), ("C",))

    def test_no_manuscript(self):
        grammar = Grammar("B", {"A": None, "B": (1, [(0, "A", "", 0)], [])})
        self.check_error(BadGrammar, {"kind": "B"}, grammar.trimmed)

    def test_the_same_root(self):
        self.assertEqual(Grammar("B", {"B": None, "A": None}).trimmed(), Grammar("B", {"B": None}))

    def test_rows_that_are_left(self):
        rows = {
            # Room 2 is never come to; from room 1 with C nothing ends; C is endless.
            "A": (3, [(0, "B", "", 1), (1, "C", "", 1), (0, "B", "x", 0), (2, "B", "", 1), (1, "A", "", 1)], [1, 2]),
            "B": None,
            "C": (1, [(0, "C", "", 0)], []),
        }
        told = Grammar("A", rows).trimmed()
        wanted = Grammar("A", {"A": (3, [(0, "B", "", 1), (0, "B", "x", 0), (1, "A", "", 1)], [1]), "B": None})
        self.assertEqual(told, wanted)
        self.assertEqual((told.root, told.kinds, told.rooms("A")), ("A", ("A", "B"), 3))

    def test_steps_into_rooms_without_an_end(self):
        rows = {"A": (3, [(0, "B", "", 1), (0, "B", "x", 2), (2, "B", "", 2), (1, "B", "y", 2)], [0, 1]), "B": None}
        told = Grammar("A", rows).trimmed()
        self.assertEqual(told, Grammar("A", {"A": (3, [(0, "B", "", 1)], [0, 1]), "B": None}))

    def test_kinds_that_do_not_occur(self):
        rows = {"A": (1, [(0, "C", "x", 0)], [0]), "B": (1, [(0, "C", "", 0)], [0]), "C": None}
        self.assertEqual(Grammar("A", rows).trimmed().kinds, ("A", "C"))
        # B stands only behind a room without an end.
        rows = {"A": (2, [(0, "C", "x", 0), (0, "B", "", 1)], [0]), "B": None, "C": None}
        self.assertEqual(Grammar("A", rows).trimmed().kinds, ("A", "C"))

    def test_a_trimmed_grammar_stays(self):
        chance = random.Random(8)
        for _ in range(400):
            grammar = Grammar("A", random_rows(chance))
            if "A" not in grammar.endless():
                told = grammar.trimmed()
                self.assertEqual(told.trimmed(), told)
                self.assertEqual(told.endless(), ())

    def test_the_old_grammar_stays(self):
        before = Grammar("A", {"A": (2, [(0, "B", "x", 1), (1, "C", "", 0)], [1]), "B": None,
                               "C": (1, [(0, "C", "", 0)], [])})
        G.trimmed()
        self.assertEqual(G, before)

    def test_against_many_pieces(self):
        # What small manuscripts use is left, and what is left is used by some manuscript.
        chance = random.Random(9)
        for _ in range(300):
            grammar = Grammar("A", random_rows(chance))
            found = pieces_up_to(grammar, 4, 4)
            for kind in grammar.kinds:
                if found[kind]:
                    self.assertNotIn(kind, grammar.endless())
            if "A" in grammar.endless():
                self.assertEqual(found["A"], [])
                self.check_error(BadGrammar, {"kind": "A"}, grammar.trimmed)
                continue
            told = grammar.trimmed()
            for tree in found["A"]:
                self.assertTrue(grammar.fits(tree))
                self.assertTrue(told.fits(tree))
            self.check_used(grammar, told)

    def check_used(self, grammar, told):
        """Everything in the trimmed grammar is reached from the root and comes to an end."""
        reached, todo = {"A"}, ["A"]
        while todo:
            kind = todo.pop()
            rooms = {0}
            for _ in range(3):
                for room in sorted(rooms):
                    rooms |= {step[2] for step in told.steps(kind, room)}
            for room in range(told.rooms(kind)):
                if room not in rooms:
                    self.assertEqual((told.steps(kind, room), told.is_final(kind, room)), ((), False))
                for part, _, target in told.steps(kind, room):
                    self.assertTrue(self.ends(told, kind, target))
                    if part not in reached:
                        reached.add(part)
                        todo.append(part)
            self.assertEqual(told.rooms(kind), grammar.rooms(kind))
        self.assertEqual(tuple(sorted(reached)), told.kinds)

    def ends(self, told, kind, room):
        rooms = {room}
        for _ in range(3):
            for at in sorted(rooms):
                rooms |= {step[2] for step in told.steps(kind, at)}
        return any(told.is_final(kind, at) for at in rooms)


class TestEqual(Case):
    def test_order_and_repeated_finals(self):
        steps = [(0, "A", "", 1), (1, "A", "x", 0), (0, "B", "y", 0)]
        one = Grammar("A", {"A": (2, steps, [0, 1]), "B": None})
        for order in itertools.permutations(steps):
            self.assertTrue(one == Grammar("A", {"B": None, "A": (2, order, [1, 0, 0, 1])}))
            self.assertFalse(one != Grammar("A", {"B": None, "A": (2, list(order), (1, 0))}))

    def test_what_ends_it(self):
        steps = [(0, "A", "", 1), (1, "B", "x", 0)]
        one = Grammar("A", {"A": (2, steps, [0]), "B": None})
        unlike = [
            Grammar("B", {"A": (2, steps, [0]), "B": None}), Grammar("A", {"A": (3, steps, [0]), "B": None}),
            Grammar("A", {"A": (2, steps[:1], [0]), "B": None}), Grammar("A", {"A": (2, steps, [0, 1]), "B": None}),
            Grammar("A", {"A": (2, steps, []), "B": None}), Grammar("A", {"A": (2, steps, [0]), "B": (1, [], [])}),
            Grammar("A", {"A": (2, steps, [0]), "B": None, "C": None}),
            Grammar("A", {"A": (2, [(0, "A", "", 0), (1, "B", "x", 0)], [0]), "B": None}),
            Grammar("A", {"A": None, "B": None}),
        ]
        for two in unlike:
            self.assertFalse(one == two)
            self.assertFalse(two == one)
            self.assertTrue(one != two)

    def test_other_values(self):
        for other in (None, "A", {"A": None}, ("A", {"A": None}), 0):
            self.assertFalse(Grammar("A", {"A": None}) == other)
