import inspect

from helpers import Case

from pressalike.errors import BadPiece
from pressalike.pieces import KINDS, MARKS, Block, Inner, Piece

TREE = Inner("A", "", [
    Block("B", "x", ["ab", "b"]),
    Inner("C", "y", [Block("A", "", ["a"]), Inner("B", "xy"), Block("C", "")]),
    Block("B", ""),
])


def deep(levels, word="a"):
    piece = Block("B", "", [word])
    for _ in range(levels - 1):
        piece = Inner("A", "", [piece])
    return piece


class TestFields(Case):
    def test_constants(self):
        self.assertEqual((KINDS, MARKS), (("A", "B", "C"), ("", "x", "y", "xy")))

    def test_example(self):
        tree = Inner("A", "", [Block("B", "x", ["ab", "b"]), Block("B", "")])
        self.assertEqual([tree.cost, len(tree), tree.piece_at((0,)).words], [8, 2, ('ab', 'b')])

    def test_classes(self):
        self.assertEqual((Inner.__bases__, Block.__bases__), ((Piece,), (Piece,)))

    def test_base(self):
        piece = Piece("C", "xy")
        self.assertEqual((piece.kind, piece.marks, piece.cost), ("C", "xy", 1))

    def test_every_label(self):
        for kind in KINDS:
            for marks in MARKS:
                for piece in (Inner(kind, marks), Block(kind, marks)):
                    self.assertEqual((piece.kind, piece.marks), (kind, marks))

    def test_inner(self):
        one, two = Block("B", ""), Inner("C", "x")
        for parts in ([one, two], (one, two)):
            piece = Inner("A", "y", parts)
            self.assertIs(piece.is_block, False)
            self.assertIs(type(piece.parts), tuple)
            self.assertEqual(len(piece), 2)
            self.assertEqual(list(piece), [one, two])
            self.assertIs(piece.parts[0], one)
        self.assertEqual((Inner("A", "").parts, len(Inner("A", "")), list(Inner("A", ""))), ((), 0, []))

    def test_block(self):
        for words in (["ab", "d"], ("ab", "d")):
            piece = Block("A", "y", words)
            self.assertIs(piece.is_block, True)
            self.assertEqual((piece.words, len(piece)), (("ab", "d"), 2))
        self.assertEqual((Block("A", "").words, len(Block("A", ""))), ((), 0))

    def test_properties(self):
        self.assertIsInstance(vars(Piece)["cost"], property)
        self.assertIsInstance(vars(Inner)["is_block"], property)
        self.assertIsInstance(vars(Block)["is_block"], property)

    def test_lists_that_are_changed_later(self):
        parts, words = [Block("B", "")], ["a"]
        inner, block = Inner("A", "", parts), Block("A", "", words)
        parts.append(Block("C", ""))
        words[0] = "bbb"
        self.assertEqual((len(inner), block.words), (1, ("a",)))
        self.assertEqual((inner.cost, block.cost), (2, 3))


class TestWrong(Case):
    def wrong(self, call, *args):
        self.check_error(BadPiece, {"path": ()}, call, *args)

    def test_kinds(self):
        for kind in ("", "D", "a", "AB", "A ", "x"):
            for make in (Piece, Inner, Block):
                self.wrong(make, kind, "")

    def test_marks(self):
        for marks in ("yx", "xx", "z", " ", "X", "xyx", "A"):
            for make in (Piece, Inner, Block):
                self.wrong(make, "A", marks)

    def test_parts(self):
        for part in (None, 1, "B[]", [], (), Block, Piece("B", "")):
            self.wrong(Inner, "A", "", [part])
            self.wrong(Inner, "A", "", (Block("B", ""), part))
            self.wrong(Inner, "A", "", [part, Block("B", "")])

    def test_words(self):
        for word in ("", "e", "abe", "A", "a b", " ", "a" * 41, "a\n"):
            self.wrong(Block, "A", "", [word])
            self.wrong(Block, "A", "", ("ab", word))
        self.assertEqual(Block("A", "", ["a" * 40, "abcd"]).cost, 1 + 2 + 44)


class TestCost(Case):
    def test_costs(self):
        self.assertEqual((Inner("A", "xy").cost, Block("A", "xy").cost), (1, 1))
        self.assertEqual(Block("A", "", ["abc", "d"]).cost, 1 + 2 + 4)
        self.assertEqual(TREE.cost, 7 + 3 + 4)
        self.assertEqual(deep(60).cost, 62)
        self.assertEqual(deep(200).cost, 202)

    def test_wide(self):
        self.assertEqual(Inner("A", "", [Block("B", "", ["ab"])] * 399).cost, 1 + 399 * 4)


class TestPaths(Case):
    def test_piece_at(self):
        self.assertIs(TREE.piece_at(()), TREE)
        self.assertIs(TREE.piece_at((1,)), TREE.parts[1])
        self.assertIs(TREE.piece_at((1, 2)), TREE.parts[1].parts[2])
        self.assertIs(TREE.parts[1].piece_at((0,)), TREE.parts[1].parts[0])
        self.assertEqual(deep(60).piece_at((0,) * 59), Block("B", "", ["a"]))

    def test_paths_that_name_no_piece(self):
        for path in ((3,), (0, 0), (1, 3), (1, 1, 0), (1, 2, 0), (5, 5), (-1,), (1, -1), (1, -3), (-3, 0)):
            self.check_error(BadPiece, {"path": path}, TREE.piece_at, path)
        self.check_error(BadPiece, {"path": (0,)}, Block("A", "", ["a"]).piece_at, (0,))
        self.check_error(BadPiece, {"path": (-1,)}, Inner("A", "").piece_at, (-1,))
        path = (0,) * 60
        self.check_error(BadPiece, {"path": path}, deep(60).piece_at, path)

    def test_each_piece(self):
        told = [(path, piece.kind, piece.marks) for path, piece in TREE.each_piece()]
        self.assertEqual(told, [
            ((), "A", ""), ((0,), "B", "x"), ((1,), "C", "y"), ((1, 0), "A", ""), ((1, 1), "B", "xy"),
            ((1, 2), "C", ""), ((2,), "B", ""),
        ])
        for path, piece in TREE.each_piece():
            self.assertIs(TREE.piece_at(path), piece)
        self.assertEqual([path for path, _ in TREE.parts[1].each_piece()], [(), (0,), (1,), (2,)])

    def test_each_block(self):
        self.assertEqual([path for path, _ in TREE.each_block()], [(0,), (1, 0), (1, 2), (2,)])
        for path, piece in TREE.each_block():
            self.assertIs(TREE.piece_at(path), piece)
        self.assertEqual(list(Inner("A", "").each_block()), [])
        block = Block("A", "")
        self.assertEqual([(path, piece is block) for path, piece in block.each_block()], [((), True)])
        self.assertEqual([(path, piece is block) for path, piece in block.each_piece()], [((), True)])

    def test_generators(self):
        self.assertTrue(inspect.isgeneratorfunction(vars(Piece)["each_piece"]))
        self.assertTrue(inspect.isgeneratorfunction(vars(Piece)["each_block"]))

    def test_deep_and_wide(self):
        paths = [path for path, _ in deep(60).each_piece()]
        self.assertEqual(paths, [(0,) * many for many in range(60)])
        self.assertEqual([path for path, _ in deep(200).each_block()], [(0,) * 199])
        wide = Inner("A", "", [Block("B", "") for _ in range(399)])
        self.assertEqual([path for path, _ in wide.each_block()], [(at,) for at in range(399)])
        both = Inner("A", "", [deep(59), deep(59, "b"), deep(59, "c")])
        self.assertEqual([piece.words[0] for _, piece in both.each_block()], ["a", "b", "c"])
        self.assertEqual(len(list(both.each_piece())), 1 + 3 * 59)


class TestEqual(Case):
    def test_equal(self):
        self.assertTrue(Inner("A", "x", [Block("B", "", ["a"])]) == Inner("A", "x", (Block("B", "", ("a",)),)))
        self.assertTrue(deep(60) == deep(60))
        self.assertTrue(deep(200) == deep(200))
        self.assertFalse(deep(200) != deep(200))

    def test_what_ends_it(self):
        part, other = Block("B", "", ["a", "b"]), Inner("B", "")
        one = Inner("A", "x", [part, other])
        unlike = [
            Inner("B", "x", [part, other]), Inner("A", "", [part, other]), Inner("A", "x", [other, part]),
            Inner("A", "x", [part]), Inner("A", "x", [part, other, other]), Inner("A", "x"),
            Inner("A", "x", [Block("B", "y", ["a", "b"]), other]), Inner("A", "x", [Block("C", "", ["a", "b"]), other]),
            Inner("A", "x", [Block("B", "", ["b", "a"]), other]), Inner("A", "x", [Block("B", "", ["a"]), other]),
            Inner("A", "x", [part, Block("B", "")]), Inner("A", "x", [part, Inner("B", "x")]),
            Inner("A", "x", [part, Inner("B", "", [other])]),
        ]
        for two in unlike:
            self.assertFalse(one == two)
            self.assertFalse(two == one)
            self.assertTrue(one != two)
        self.assertFalse(deep(200) == deep(200, "b"))
        self.assertFalse(deep(60) == deep(61))

    def test_blocks(self):
        block = Block("A", "x", ["a", "bc"])
        self.assertTrue(block == Block("A", "x", ("a", "bc")))
        for two in (Block("B", "x", ["a", "bc"]), Block("A", "", ["a", "bc"]), Block("A", "x", ["bc", "a"]),
                    Block("A", "x", ["a"]), Block("A", "x", ["abc"]), Block("A", "x")):
            self.assertFalse(block == two)

    def test_a_block_is_no_inner(self):
        self.assertFalse(Block("A", "") == Inner("A", ""))
        self.assertFalse(Inner("A", "") == Block("A", ""))

    def test_other_values(self):
        for piece in (Inner("A", ""), Block("A", "")):
            for other in (None, (), [], "A[]", "A{}", ("A", ""), 0, False, object()):
                self.assertFalse(piece == other)
                self.assertTrue(piece != other)
