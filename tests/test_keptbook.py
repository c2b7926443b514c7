import random

from helpers import DOT, Case, random_piece, random_style, random_words, some_faces
from plainly import plain_setting

from pressalike.edits import Drop, Marks, Put, Words
from pressalike.errors import BadEdit
from pressalike.faces import Face
from pressalike.keptbook import KeptBook, Redo
from pressalike.pieces import Block, Inner
from pressalike.rules import Rule
from pressalike.setter import print_tree, standing_before
from pressalike.sheets import Sheet
from pressalike.styles import Style
from pressalike.treetext import read_tree, write_tree

FACE = Face([DOT])
TOP, OPEN = ("top", 0, 0), ("open", 1, 0)


def style_of(*rules, **named):
    return Style(Sheet(rules), [FACE], **named)


def book_of(text, *rules, **named):
    return KeptBook(style_of(*rules, **named), read_tree(text))


def random_edit(chance, tree, letters):
    """An edit that may apply to the tree or not."""
    path, piece = chance.choice(list(tree.each_piece()))
    kind = chance.choice("wmpd")
    if kind == "w":
        return Words(path, random_words(chance, letters))
    if kind == "m":
        return Marks(path, chance.choice(["", "x", "y", "xy"]))
    if kind == "d":
        return Drop(path)
    return Put(path + (0 if piece.is_block else chance.randrange(len(piece) + 1),), random_piece(chance, 3, letters))


class KeptCase(Case):
    def check_book(self, book, tree):
        """A book is as a new one that is made with its tree."""
        entries, blocks = plain_setting(book.style, tree)
        self.assertEqual(book.tree, tree)
        self.assertEqual(book.entries(), entries)
        self.assertEqual(book.printed().blocks, blocks)
        new = KeptBook(book.style, tree)
        self.assertEqual((new.entries(), new.printed(), new.tree), (book.entries(), book.printed(), book.tree))

    def check_redo(self, redo, book, span, former):
        """What a Redo tells, by [7.5] and [7.6]; `former` has the entry standings ahead of the change."""
        entries, blocks = plain_setting(book.style, book.tree)
        shift = len(former) - len(entries)
        felt, met = [], None
        for at in range(span[1], len(entries)):
            if entries[at] is not None and entries[at] == former[at + shift] and met is None:
                met = at
            if blocks[at] and entries[at] != former[at + shift]:
                felt.append((at, entries[at], former[at + shift]))
        self.assertEqual((redo.span, redo.felt, redo.behind, redo.met), (span, tuple(felt), len(felt), met))
        self.assertIsInstance(redo, Redo)

    def change(self, book, edit):
        """Make a change, check all that is told, take it back, and make it again."""
        old, former = book.tree, book.entries()
        new, span, many = edit.apply(old), edit.own(old), book.undoable()
        redo = book.change(edit)
        self.check_book(book, new)
        self.check_redo(redo, book, span, former)
        self.assertEqual(book.undoable(), many + 1)
        inverse, behind = edit.inverse(old), book.entries()
        undone = book.undo()
        self.check_book(book, old)
        self.check_redo(undone, book, inverse.own(new), behind)
        self.assertEqual((undone.behind, book.undoable()), (redo.behind, many))
        again = book.change(edit)
        self.assertEqual((again.span, again.behind, again.met, again.felt), (redo.span, redo.behind, redo.met, redo.felt))
        return redo


class TestExamples(KeptCase):
    def test_examples(self):
        style = Style(Sheet([]), [Face([[[(0, 0), (1, 0), (1, 1), (0, 1)]]])])
        book = KeptBook(style, read_tree("A{B[a] B[a] B[a]}"))
        redo = book.change(Words((0,), ["a", "a", "a"]))
        self.assertEqual((redo.span, redo.behind, redo.met), ((0, 1), 2, None))
        self.assertEqual(redo.felt, ((1, ('top', 0, 0), ('open', 1, 0)), (2, ('open', 1, 0), ('top', 0, 0))))
        self.assertEqual((book.undo().behind, write_tree(book.tree), book.undoable()), (2, 'A{B[a] B[a] B[a]}', 0))

    def test_a_new_book(self):
        style, tree = style_of(), read_tree("A{B[a] B[a]}")
        book = KeptBook(style, tree)
        self.assertEqual((book.style, book.tree, book.undoable()), (style, tree, 0))
        self.assertEqual((book.printed(), book.entries()), (print_tree(style, tree), standing_before(style, tree)))

    def test_no_block(self):
        book = book_of("A{}")
        self.assertEqual((book.entries(), len(book.printed())), ([], 0))
        redo = self.change(book, Put((0,), Block("B", "", ["a"])))
        self.assertEqual((redo.span, redo.behind, redo.met, redo.felt), ((0, 1), 0, None, ()))
        self.change(book, Drop((0,)))

    def test_one_block_as_root(self):
        book = book_of("A[a]", Rule(1, mark="x", page=True))
        for edit in (Words((), ["a", "a", "a"]), Marks((), "x"), Words((), [])):
            redo = self.change(book, edit)
            self.assertEqual((redo.span, redo.behind, redo.met), ((0, 1), 0, None))


class TestEdits(KeptCase):
    RULES = (Rule(1, mark="x", kept=True), Rule(1, mark="y", page=True), Rule(2, elder="C", space=1))
    TEXT = "A{B[a] Bx[a] B[a a a] C{B[a] Bx[]} B[a] By[a] B[a]}"

    def test_each_edit_at_each_place(self):
        for length in (2, 3, 4):
            tree = read_tree(self.TEXT)
            places = [path for path, _ in tree.each_piece()]
            edits = [Words(path, words) for path, _ in tree.each_block() for words in ([], ["a"], ["a"] * 5)]
            edits += [Marks(path, marks) for path in places for marks in ("", "x", "y", "xy")]
            edits += [Drop(path) for path in places if path]
            edits += [Put(path, piece) for path in places + [(7,), (3, 2)] if path for piece in (
                Block("B", "", ["a"]), Block("C", "xy", ["a", "a", "a"]), Block("B", ""), Inner("C", "y"), Inner("C", "", [Block("B", "x", ["a"])]),
            )]
            for edit in edits:
                self.change(book_of(self.TEXT, *self.RULES, length=length), edit)

    def test_spans(self):
        told = [
            (Words((0,), ["a"]), (0, 1)), (Words((6,), []), (7, 8)), (Marks((), "x"), (0, 8)), (Marks((3,), "x"), (3, 5)),
            (Put((0,), Inner("C", "")), (0, 1)), (Put((7,), Inner("C", "")), (8, 8)), (Drop((2,)), (2, 4)), (Drop((6,)), (7, 7)),
            (Put((3, 2), Block("B", "")), (5, 6)),
        ]
        for edit, span in told:
            book = book_of(self.TEXT, *self.RULES)
            self.assertEqual(book.change(edit).span, span)

    def test_a_change_that_leaves_the_tree_equal(self):
        book = book_of("A{B[a] B[a]}")
        redo = self.change(book, Words((0,), ["a"]))
        self.assertEqual((redo.span, redo.behind, redo.met, redo.felt, book.undoable()), ((0, 1), 0, 1, (), 1))
        self.assertEqual(book.undo().behind, 0)
        self.assertEqual(write_tree(book.tree), "A{B[a] B[a]}")

    def test_pieces_without_blocks_that_make_a_new_page_due(self):
        # The span is empty, and the block just behind comes with a new page that it had not.
        rule = Rule(1, kind="C", page=True)
        for text, edit in (
            ("A{B[a] C{} B[a] B[a]}", Drop((1,))), ("A{B[a] C{} C{} B[a]}", Put((1,), Inner("C", ""))),
            ("A{B[a] B{} B[a]}", Put((1,), Inner("C", ""))), ("A{B[a] C{B{}} B[a] B[a]}", Drop((1,))),
            ("A{B[a] C{Cx{}} B[a] B[a]}", Marks((1, 0), "y")),
        ):
            self.change(book_of(text, rule, Rule(2, mark="x", page=False)), edit)
        book = book_of("A{B[a] C{} B[a] B[a]}", rule, length=4)
        redo = book.change(Marks((1,), "x"))
        self.assertEqual((redo.span, redo.behind, redo.met), ((1, 1), 0, 1))
        redo = book.change(Drop((1,)))
        self.assertEqual((redo.span, redo.behind), ((1, 2), 1))
        self.assertEqual(redo.felt, ((2, ("open", 2, 0), OPEN),))


class TestMeeting(KeptCase):
    def test_counted_blocks_have_lines(self):
        book = book_of("A{B[a] B[] B[a] By[a] B[a]}", Rule(1, mark="y", out=True))
        redo = self.change(book, Words((0,), []))
        self.assertEqual(redo.felt, ((2, TOP, OPEN), (4, OPEN, TOP)))
        self.assertEqual((redo.behind, redo.met), (2, None))

    def test_they_meet_at_a_new_page(self):
        book = book_of("A{B[a] B[a] Bx[a] B[a]}", Rule(1, mark="x", page=True))
        redo = self.change(book, Words((0,), ["a", "a", "a"]))
        self.assertEqual((redo.felt, redo.met), (((1, TOP, OPEN),), 2))

    def test_they_meet_at_a_block_without_words(self):
        book = book_of("A{B[a] B[a] Bx[] B[a]}", Rule(1, mark="x", page=True))
        self.assertEqual(self.change(book, Words((0,), ["a", "a", "a"])).met, 2)
        book = book_of("A{B[a] B[] B[a]}")
        self.assertEqual(self.change(book, Words((0,), ["a", "a"])).met, 1)

    def test_they_do_not_meet_at_a_block_that_is_left_out(self):
        book = book_of("A{B[a] B[a] Bx[a] B[a]}", Rule(1, mark="x", page=True), Rule(2, mark="x", out=True))
        redo = self.change(book, Words((0,), ["a", "a", "a"]))
        self.assertEqual((redo.felt, redo.met), (((1, TOP, OPEN), (3, OPEN, TOP)), None))
        book = book_of("A{B[a] Bx[a] B[a]}", Rule(1, mark="x", out=True))
        self.assertEqual(self.change(book, Words((0,), ["a", "a"])).met, 2)

    def test_they_do_not_meet(self):
        book = book_of("A{B[a] B[a]}")
        self.assertIsNone(self.change(book, Words((1,), [])).met)
        self.assertIsNone(self.change(book, Words((0,), ["a", "a", "a"])).met)

    def test_lines_that_are_pending_ahead_of_the_span(self):
        book = book_of("A{B[a] Bx[a] B[]}", Rule(1, mark="x", kept=True))
        self.assertEqual([line[:2] for line in book.printed()], [(True, 0), (False, 1)])
        self.change(book, Words((2,), ["a"]))
        self.assertEqual([line[:2] for line in book.printed()], [(True, 0), (True, 0), (False, 1)])
        self.change(book, Words((2,), []))
        self.assertEqual([line[:2] for line in book.printed()], [(True, 0), (False, 1)])

    def test_lines_that_are_pending_where_both_settings_meet(self):
        # Behind the kept block both settings are as before; yet whether its line goes over is settled later.
        kept = Rule(1, mark="x", kept=True)
        book = book_of("A{B[a] Bx[a] B[a] B[a]}", kept)
        redo = self.change(book, Words((1,), ["a"]))
        self.assertEqual((redo.met, [line[:2] for line in book.printed()]), (2, [(True, 0), (True, 0), (False, 1), (True, 0)]))
        book = book_of("A{B[a] B[a] Bx[a] B[a]}", kept, Rule(2, kind="C", kept=False), length=3)
        self.change(book, Words((0,), ["a", "a", "a", "a", "a", "a"]))
        self.change(book, Words((0,), ["a"]))
        book = book_of("A{B[a] Bx[a] Bx[] B[] B[a]}", kept, length=2)
        self.change(book, Marks((1,), "xy"))
        self.change(book, Words((4,), []))
        self.change(book, Words((0,), ["a"] * 5))


class TestRefusals(KeptCase):
    WRONG = [
        (Words((3,), ["a"]), (3,)), (Words((), ["a"]), ()), (Marks((0, 0), "x"), (0, 0)), (Put((4,), Block("B", "")), (4,)),
        (Put((), Block("B", "")), ()), (Drop(()), ()), (Drop((3,)), (3,)), (Drop((-1,)), (-1,)), (Put((0, 0), Block("B", "")), (0, 0)),
    ]

    def state(self, book):
        return write_tree(book.tree), book.printed(), book.entries(), book.undoable()

    def test_alone(self):
        book = book_of("A{B[a] B[a] B[a]}")
        book.change(Words((1,), ["a", "a", "a"]))
        state = self.state(book)
        for edit, path in self.WRONG:
            self.check_error(BadEdit, {"path": path}, book.change, edit)
            self.assertEqual(self.state(book), state)

    def test_among_others(self):
        good = [Words((0,), ["a", "a", "a"]), Marks((1,), "x"), Drop((0,)), Put((0,), Block("C", ""))]
        for at in range(len(good) + 1):
            for edit, path in self.WRONG:
                book = book_of("A{B[a] B[a] B[a]}")
                book.change(Words((1,), []))
                state = self.state(book)
                self.check_error(BadEdit, {"path": path}, book.change_all, *(good[:at] + [edit] + good[at:]))
                self.assertEqual(self.state(book), state)
                self.assertEqual(book.undo().span, (1, 2))
                self.assertIsNone(book.undo())

    def test_an_edit_that_applies_only_behind_others(self):
        book = book_of("A{B[a]}")
        told = book.change_all(Put((1,), Block("B", "", ["a"])), Words((1,), ["a", "a", "a"]))
        self.assertEqual([redo.span for redo in told], [(1, 2), (1, 2)])
        self.check_book(book, read_tree("A{B[a] B[a a a]}"))
        self.check_error(BadEdit, {"path": (1,)}, book.change_all, Drop((1,)), Words((1,), ["a"]))
        self.check_book(book, read_tree("A{B[a] B[a a a]}"))
        self.assertEqual(book.undoable(), 2)

    def test_change_all(self):
        one, two = book_of("A{B[a] Bx[a] B[a]}", Rule(1, mark="x", kept=True)), book_of("A{B[a] Bx[a] B[a]}", Rule(1, mark="x", kept=True))
        edits = [Words((0,), []), Put((0,), Block("C", "x", ["a"])), Drop((1,)), Marks((), "y")]
        told = one.change_all(*edits)
        wanted = [two.change(edit) for edit in edits]
        self.assertEqual([(redo.span, redo.felt, redo.met) for redo in told], [(redo.span, redo.felt, redo.met) for redo in wanted])
        self.assertEqual(one.undoable(), 4)
        self.check_book(one, two.tree)
        self.assertEqual((one.change_all(), one.undoable()), ([], 4))

    def test_undo_without_a_change(self):
        book = book_of("A{B[a]}")
        for _ in range(3):
            self.assertIsNone(book.undo())
            self.assertEqual((write_tree(book.tree), book.undoable()), ("A{B[a]}", 0))
        book.change(Words((0,), []))
        self.assertIsNotNone(book.undo())
        self.assertIsNone(book.undo())

    def test_what_is_passed_and_told(self):
        tree = read_tree("A{B[a] B[a]}")
        book = KeptBook(style_of(), tree)
        book.change(Drop((0,)))
        book.entries().clear()
        self.assertEqual((write_tree(tree), write_tree(book.tree), len(book.entries())), ("A{B[a] B[a]}", "A{B[a]}", 1))


class TestRows(KeptCase):
    def test_random_ones(self):
        chance = random.Random(141)
        faces = some_faces()
        counted = []
        for _ in range(150):
            face = chance.choice(faces)
            style = random_style(chance, [other for other in faces if other.letters == face.letters])
            tree = Inner("A", "", [random_piece(chance, 3, face.letters) for _ in range(chance.randrange(1, 12))])
            book, history = KeptBook(style, tree), []
            for _ in range(8):
                edit = random_edit(chance, book.tree, face.letters)
                try:
                    edit.apply(book.tree)
                except BadEdit:
                    self.check_error(BadEdit, {"path": edit.path}, book.change, edit)
                    self.check_book(book, book.tree)
                    continue
                history.append(book.tree)
                counted.append(self.change(book, edit).behind)
                if chance.random() < 0.3:
                    book.undo()
                    self.check_book(book, history.pop())
            while history:
                self.assertEqual(book.undoable(), len(history))
                book.undo()
                self.check_book(book, history.pop())
            self.assertIsNone(book.undo())
        self.assertGreater(len([many for many in counted if many > 1]), 60)

    def test_long_books_of_kept_blocks(self):
        chance = random.Random(142)
        rules = (Rule(1, mark="x", kept=True), Rule(1, mark="y", space=1), Rule(1, kind="C", measure=1))
        for _ in range(200):
            parts = [Block(chance.choice("BBC"), chance.choice(["", "x", "x", "xy", "y"]), ["a"] * chance.choice([0, 1, 1, 2, 3])) for _ in range(14)]
            book = KeptBook(style_of(*rules, length=chance.randrange(2, 5)), Inner("A", "", parts))
            for _ in range(4):
                place = chance.randrange(len(book.tree))
                self.change(book, chance.choice([
                    Words((place,), ["a"] * chance.randrange(4)), Marks((place,), chance.choice(["", "x", "y"])), Drop((place,)),
                    Put((place,), Block("B", "x", ["a"])),
                ]))

    def test_two_books_in_turn(self):
        chance = random.Random(143)
        style = style_of(Rule(1, mark="x", kept=True), length=3)
        tree = read_tree("A{B[a] Bx[a] B[a a a] B[a] Bx[a] B[a]}")
        books = [KeptBook(style, tree), KeptBook(style, tree)]
        trees = [tree, tree]
        for turn in range(40):
            at = turn % 2
            edit = random_edit(chance, trees[at], "a")
            try:
                trees[at] = edit.apply(trees[at])
            except BadEdit:
                continue
            books[at].change(edit)
            for book, present in zip(books, trees):
                self.check_book(book, present)
