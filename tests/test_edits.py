import random

from helpers import Case
from test_treetext import random_tree

from pressalike.edits import Drop, Edit, Marks, Put, Words
from pressalike.errors import BadEdit, BadPiece
from pressalike.pieces import Block, Inner
from pressalike.treetext import read_tree, write_tree

TEXT = "A{Bx[ab b] C{A[a] By{} C[]} B[] Ay{}}"
TREE = read_tree(TEXT)


def random_edit(chance, tree):
    paths = [path for path, _ in tree.each_piece()]
    path = chance.choice(paths)
    what = chance.randrange(4)
    if what == 0:
        return Words(path, ["a"] * chance.randrange(3))
    if what == 1:
        return Marks(path, chance.choice(["", "x", "y", "xy"]))
    if what == 2:
        return Put(path + (chance.randrange(3),), random_tree(chance, 2))
    return Drop(path)


def plain_own(edit, tree):
    """The words of [3.11] over the blocks of the new tree."""
    new = edit.apply(tree)
    blocks = [path for path, _ in new.each_block()]
    path = edit.path
    tops = [path]
    if isinstance(edit, Put):
        tops.append(path[:-1] + (path[-1] + 1,))
    own = [at for at, block in enumerate(blocks) if any(block[:len(top)] == top for top in tops)]
    if own:
        return own[0], own[-1] + 1
    before = len([block for block in blocks if block < path])
    return before, before


class TestApply(Case):
    def test_example(self):
        tree = Inner("A", "", [Block("B", "x", ["ab", "b"]), Block("B", "")])
        edit = Put((1,), Block("B", "", ["a"]))
        new = edit.apply(tree)
        told = [write_tree(new), edit.own(tree), edit.inverse(tree) == Drop((1,))]
        self.assertEqual(told, ['A{Bx[ab b] B[a] B[]}', (1, 3), True])

    def check(self, edit, text, inverse, own, tree=TREE):
        before = write_tree(tree)
        new = edit.apply(tree)
        self.assertEqual(write_tree(new), text)
        self.assertEqual(edit.own(tree), own)
        self.assertIs(type(edit.own(tree)), tuple)
        self.assertEqual(edit.inverse(tree), inverse)
        self.assertEqual(write_tree(edit.inverse(tree).apply(new)), before)
        self.assertEqual(write_tree(tree), before)

    def test_words(self):
        self.check(Words((0,), ["d"]), "A{Bx[d] C{A[a] By{} C[]} B[] Ay{}}", Words((0,), ["ab", "b"]), (0, 1))
        self.check(Words((1, 0), []), "A{Bx[ab b] C{A[] By{} C[]} B[] Ay{}}", Words((1, 0), ["a"]), (1, 2))
        self.check(Words((2,), ["a", "a"]), "A{Bx[ab b] C{A[a] By{} C[]} B[a a] Ay{}}", Words((2,), []), (3, 4))
        self.check(Words((), ["b"]), "A[b]", Words((), ["a"]), (0, 1), Block("A", "", ["a"]))
        self.check(Words((2,), []), TEXT, Words((2,), []), (3, 4))

    def test_marks(self):
        self.check(Marks((0,), "y"), "A{By[ab b] C{A[a] By{} C[]} B[] Ay{}}", Marks((0,), "x"), (0, 1))
        self.check(Marks((1,), "xy"), "A{Bx[ab b] Cxy{A[a] By{} C[]} B[] Ay{}}", Marks((1,), ""), (1, 3))
        self.check(Marks((), "x"), "Ax{Bx[ab b] C{A[a] By{} C[]} B[] Ay{}}", Marks((), ""), (0, 4))
        self.check(Marks((1, 1), ""), "A{Bx[ab b] C{A[a] B{} C[]} B[] Ay{}}", Marks((1, 1), "y"), (2, 2))
        self.check(Marks((3,), "x"), "A{Bx[ab b] C{A[a] By{} C[]} B[] Ax{}}", Marks((3,), "y"), (4, 4))
        self.check(Marks((2,), ""), TEXT, Marks((2,), ""), (3, 4))

    def test_put_a_block(self):
        piece = Block("C", "", ["c"])
        self.check(Put((0,), piece), "A{C[c] Bx[ab b] C{A[a] By{} C[]} B[] Ay{}}", Drop((0,)), (0, 2))
        self.check(Put((1,), piece), "A{Bx[ab b] C[c] C{A[a] By{} C[]} B[] Ay{}}", Drop((1,)), (1, 4))
        self.check(Put((3,), piece), "A{Bx[ab b] C{A[a] By{} C[]} B[] C[c] Ay{}}", Drop((3,)), (4, 5))
        self.check(Put((4,), piece), "A{Bx[ab b] C{A[a] By{} C[]} B[] Ay{} C[c]}", Drop((4,)), (4, 5))
        self.check(Put((1, 3), piece), "A{Bx[ab b] C{A[a] By{} C[] C[c]} B[] Ay{}}", Drop((1, 3)), (3, 4))
        self.check(Put((1, 1, 0), piece), "A{Bx[ab b] C{A[a] By{C[c]} C[]} B[] Ay{}}", Drop((1, 1, 0)), (2, 3))

    def test_put_an_inner_piece(self):
        piece = read_tree("B{A[] B{A[a]}}")
        text = "A{Bx[ab b] C{A[a] By{} B{A[] B{A[a]}} C[]} B[] Ay{}}"
        self.check(Put((1, 2), piece), text, Drop((1, 2)), (2, 5))
        empty = Inner("C", "xy")
        self.check(Put((2,), empty), "A{Bx[ab b] C{A[a] By{} C[]} Cxy{} B[] Ay{}}", Drop((2,)), (3, 4))
        self.check(Put((1, 1), empty), "A{Bx[ab b] C{A[a] Cxy{} By{} C[]} B[] Ay{}}", Drop((1, 1)), (2, 2))
        self.check(Put((4,), empty), "A{Bx[ab b] C{A[a] By{} C[]} B[] Ay{} Cxy{}}", Drop((4,)), (4, 4))
        self.check(Put((0,), empty), "A{Cxy{}}", Drop((0,)), (0, 0), Inner("A", ""))

    def test_drop(self):
        part = TREE.parts[0]
        self.check(Drop((0,)), "A{C{A[a] By{} C[]} B[] Ay{}}", Put((0,), part), (0, 2))
        self.check(Drop((1,)), "A{Bx[ab b] B[] Ay{}}", Put((1,), TREE.parts[1]), (1, 2))
        self.check(Drop((2,)), "A{Bx[ab b] C{A[a] By{} C[]} Ay{}}", Put((2,), TREE.parts[2]), (3, 3))
        self.check(Drop((3,)), "A{Bx[ab b] C{A[a] By{} C[]} B[]}", Put((3,), TREE.parts[3]), (4, 4))
        self.check(Drop((1, 0)), "A{Bx[ab b] C{By{} C[]} B[] Ay{}}", Put((1, 0), read_tree("A[a]")), (1, 1))
        self.check(Drop((1, 1)), "A{Bx[ab b] C{A[a] C[]} B[] Ay{}}", Put((1, 1), read_tree("By{}")), (2, 3))
        self.check(Drop((1, 2)), "A{Bx[ab b] C{A[a] By{}} B[] Ay{}}", Put((1, 2), read_tree("C[]")), (2, 2))

    def test_against_the_words(self):
        chance = random.Random(14)
        applied = 0
        for _ in range(2000):
            tree = random_tree(chance, 4)
            edit = random_edit(chance, tree)
            before = write_tree(tree)
            try:
                new = edit.apply(tree)
            except BadEdit:
                continue
            applied += 1
            self.assertEqual(edit.own(tree), plain_own(edit, tree))
            self.assertEqual(edit.inverse(tree).apply(new), tree)
            self.assertEqual(edit.inverse(tree).inverse(new), edit)
            self.assertEqual(write_tree(tree), before)
        self.assertGreater(applied, 500)

    def test_deep(self):
        tree = Block("B", "", ["a"])
        for _ in range(199):
            tree = Inner("A", "", [Block("B", ""), tree])
        path = (1,) * 199
        edit = Words(path, ["b"])
        self.assertEqual(edit.apply(tree).piece_at(path), Block("B", "", ["b"]))
        self.assertEqual(edit.own(tree), (199, 200))
        put = Put((1,) * 198 + (2,), Block("B", "y"))
        self.assertEqual(put.own(tree), (200, 201))
        self.assertEqual(put.inverse(tree).apply(put.apply(tree)), tree)


class TestRefused(Case):
    def wrong(self, edit, tree=TREE):
        for call in (edit.apply, edit.inverse, edit.own):
            self.check_error(BadEdit, {"path": edit.path}, call, tree)

    def test_no_piece(self):
        for path in ((4,), (0, 0), (1, 3), (1, 1, 0), (-1,), (1, -1), (-2, 0), (9, 9, 9)):
            self.wrong(Words(path, []))
            self.wrong(Marks(path, "x"))
            self.wrong(Drop(path))

    def test_words_of_an_inner_piece(self):
        for path in ((), (1,), (1, 1), (3,)):
            self.wrong(Words(path, ["a"]))

    def test_put(self):
        for path in ((), (5,), (0, 0), (1, 4), (1, 1, 1), (-1,), (1, -1), (1, 0, 0), (4, 0), (-3, 0), (9, 0)):
            self.wrong(Put(path, Block("A", "")))
        self.wrong(Put((0,), Block("A", "")), Block("A", ""))

    def test_the_root_is_not_taken_out(self):
        self.wrong(Drop(()))
        self.wrong(Drop(()), Block("A", ""))
        self.wrong(Put((), Block("A", "")), Block("A", ""))


class TestMaking(Case):
    def test_deeds(self):
        told = [Words.DEED, Marks.DEED, Put.DEED, Drop.DEED]
        self.assertEqual(told, ["words", "marks", "parts", "parts"])
        self.assertEqual(Words((), []).DEED, "words")
        for edit in (Words, Marks, Put, Drop):
            self.assertEqual(edit.__bases__, (Edit,))

    def test_fields(self):
        words, marks = Words([0, 1], ["ab", "c"]), Marks([0], "xy")
        piece = Block("A", "")
        put, drop = Put([2, 0], piece), Drop([])
        self.assertEqual([edit.path for edit in (words, marks, put, drop)], [(0, 1), (0,), (2, 0), ()])
        self.assertEqual((words.words, marks.marks), (("ab", "c"), "xy"))
        self.assertIs(put.piece, piece)

    def test_wrong_words(self):
        for word in ("", "e", "A", "a b", "a" * 41):
            self.check_error(BadPiece, {"path": ()}, Words, (1,), ["a", word])
            self.check_error(BadPiece, {"path": ()}, Words, (), (word,))

    def test_wrong_marks(self):
        for marks in ("yx", "z", "xx", " "):
            self.check_error(BadPiece, {"path": ()}, Marks, (1,), marks)

    def test_wrong_pieces(self):
        for piece in (None, "B[]", 0, [], Block, ("B", "")):
            self.check_error(BadPiece, {"path": ()}, Put, (1,), piece)

    def test_lists_that_are_changed_later(self):
        path, words = [0], ["a"]
        edits = [Words(path, words), Marks(path, "x"), Put(path, Block("A", "")), Drop(path)]
        path.append(3)
        words.append("b")
        self.assertEqual([edit.path for edit in edits], [(0,)] * 4)
        self.assertEqual(edits[0].words, ("a",))


class TestEqual(Case):
    def test_equal(self):
        pairs = [
            (Words((0,), ["a", "b"]), Words([0], ("a", "b"))),
            (Marks((0,), "x"), Marks([0], "x")),
            (Put((0,), Block("A", "", ["a"])), Put([0], Block("A", "", ("a",)))),
            (Drop((0, 1)), Drop([0, 1])),
        ]
        for one, two in pairs:
            self.assertTrue(one == two)
            self.assertFalse(one != two)

    def test_unlike(self):
        edits = [
            Words((0,), ["a", "b"]), Words((0,), ["b", "a"]), Words((0,), ["a"]), Words((1,), ["a"]), Words((), []),
            Words((0,), []), Marks((0,), ""), Marks((0,), "x"), Marks((1,), "x"), Marks((), "x"),
            Put((0,), Block("A", "")), Put((0,), Inner("A", "")), Put((0,), Block("A", "x")), Put((1,), Block("A", "")),
            Drop((0,)), Drop((1,)), Drop(()), Drop((0, 0)),
        ]
        for at, one in enumerate(edits):
            for other, two in enumerate(edits):
                self.assertEqual(one == two, at == other)
                self.assertEqual(one != two, at != other)

    def test_other_values(self):
        for edit in (Words((), []), Marks((), ""), Put((0,), Block("A", "")), Drop(())):
            for other in (None, (), 0, "words", object()):
                self.assertFalse(edit == other)
