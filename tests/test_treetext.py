import random
import re

from helpers import Case

from pressalike.errors import BadText
from pressalike.pieces import KINDS, MARKS, Block, Inner
from pressalike.treetext import read_tree, write_tree

WHOLE_BLOCK = re.compile(r"[ABC]x?y?\[([abcd]{1,40}( [abcd]{1,40})*)?\]")
WHOLE_INNER = re.compile(r"[ABC]x?y?\{(P( P)*)?\}")


def random_tree(chance, levels):
    kind, marks = chance.choice(KINDS), chance.choice(MARKS)
    if levels == 1 or chance.random() < 0.4:
        words = ["".join(chance.choice("abcd") for _ in range(chance.randrange(1, 4))) for _ in range(chance.randrange(3))]
        return Block(kind, marks, words)
    return Inner(kind, marks, [random_tree(chance, levels - 1) for _ in range(chance.randrange(4))])


def is_text(text):
    """Tell whether a text without "P" is the text of a piece, by folding pieces from the inside."""
    before = None
    while text != before:
        before = text
        text = WHOLE_INNER.sub("P", WHOLE_BLOCK.sub("P", text))
    return text == "P"


def may_begin(text):
    """Tell whether the text of some piece begins with this one, by trying ends."""
    closing = text.count("{") - text.count("}")
    for end in ("", "[]", "]", "a]", "A[]", "}"):
        for braces in range(max(closing, 0) + 1):
            if is_text(text + end + "}" * braces):
                return True
    return False


def first_wrong(text):
    """The least index of [3.3], None if the text is the text of a piece."""
    if "P" in text:
        raise AssertionError("not for this sign")
    if is_text(text):
        return None
    for at in range(len(text)):
        if not may_begin(text[:at + 1]):
            return at
    return len(text)


class TestWrite(Case):
    def test_texts(self):
        told = [
            (Block("A", ""), "A[]"), (Block("B", "x", ["a"]), "Bx[a]"), (Block("C", "xy", ["ab", "cd", "a"]), "Cxy[ab cd a]"),
            (Inner("A", "y"), "Ay{}"), (Inner("A", "", [Inner("B", "")]), "A{B{}}"),
            (Inner("A", "", [Block("B", "x", ["ab", "b"]), Block("B", ""), Inner("C", "y")]), "A{Bx[ab b] B[] Cy{}}"),
        ]
        for piece, text in told:
            self.assertEqual(write_tree(piece), text)
            self.assertEqual(read_tree(text), piece)

    def test_deep(self):
        piece = Block("B", "", ["a"])
        for _ in range(199):
            piece = Inner("A", "", [piece])
        self.assertEqual(write_tree(piece), "A{" * 199 + "B[a]" + "}" * 199)


class TestRead(Case):
    def test_examples(self):
        self.assertEqual(read_tree("A{Bx[ab b] B[] Cy{}}").cost, 9)
        self.wrong("A{B[a  b]}", 6)

    def wrong(self, text, at):
        self.check_error(BadText, {"at": at}, read_tree, text)

    def test_field_by_field(self):
        tree = read_tree("A{Bx[ab b] Cy{B[] Axy{}}}")
        self.assertEqual((tree.kind, tree.marks, tree.is_block, len(tree)), ("A", "", False, 2))
        block, inner = tree.parts
        self.assertEqual((block.kind, block.marks, block.is_block, block.words), ("B", "x", True, ("ab", "b")))
        self.assertEqual((inner.kind, inner.marks, inner.is_block, len(inner)), ("C", "y", False, 2))
        self.assertEqual((inner.parts[0].is_block, inner.parts[0].words), (True, ()))
        self.assertEqual((inner.parts[1].is_block, inner.parts[1].marks, inner.parts[1].parts), (False, "xy", ()))

    def test_back_and_forth(self):
        chance = random.Random(5)
        for _ in range(300):
            tree = random_tree(chance, 6)
            self.assertEqual(read_tree(write_tree(tree)), tree)

    def test_ends_too_early(self):
        text = "A{Bxy[ab b] C{} B[]}"
        for many in range(len(text)):
            self.wrong(text[:many], many)
        self.wrong("", 0)
        self.wrong("A", 1)
        self.wrong("Ax", 2)

    def test_every_place_with_a_wrong_sign(self):
        text = "A{Bxy[ab b] C{} B[]}"
        for many in range(len(text)):
            for sign in "?e\n0Z":
                self.wrong(text[:many] + sign + text[many + 1:], many)

    def test_marks(self):
        self.wrong("Ayx[]", 2)
        self.wrong("Axx[]", 2)
        self.wrong("Ayy[]", 2)
        self.wrong("Axyx[]", 3)
        self.wrong("AX[]", 1)
        self.wrong("A []", 1)

    def test_kinds(self):
        self.wrong("D[]", 0)
        self.wrong("a[]", 0)
        self.wrong("[]", 0)
        self.wrong("{}", 0)
        self.wrong("AB[]", 1)
        self.wrong("A{D[]}", 2)
        self.wrong("A{[]}", 2)

    def test_words(self):
        word = "abcd" * 10
        self.assertEqual(read_tree(f"A[{word}]").words, (word,))
        self.assertEqual(read_tree(f"A[{word} {word}]").words, (word, word))
        self.wrong(f"A[{word}a]", 42)
        self.wrong(f"A[a {word}a]", 44)
        self.wrong(f"A[{word}", 42)
        self.wrong("A[e]", 2)
        self.wrong("A[ae]", 3)
        self.wrong("A[a}", 3)
        self.wrong("A[}", 2)
        self.wrong("A[A]", 2)

    def test_blanks(self):
        self.wrong(" A[]", 0)
        self.wrong("A[] ", 3)
        self.wrong("A[ ]", 2)
        self.wrong("A[ a]", 2)
        self.wrong("A[a ]", 4)
        self.wrong("A[a  b]", 4)
        self.wrong("A{ }", 2)
        self.wrong("A{ B[]}", 2)
        self.wrong("A{B[] }", 6)
        self.wrong("A{B[]  B[]}", 6)
        self.wrong("A{B[]B[]}", 5)
        self.wrong("A{B[]\tB[]}", 5)

    def test_brackets(self):
        self.wrong("A[}", 2)
        self.wrong("A{]", 2)
        self.wrong("A(", 1)
        self.wrong("A]", 1)
        self.wrong("A}", 1)
        self.wrong("A{B[]]", 5)

    def test_behind_the_root(self):
        self.wrong("A[]B[]", 3)
        self.wrong("A[] B[]", 3)
        self.wrong("A{}}", 3)
        self.wrong("A{}\n", 3)
        self.wrong("A[]]", 3)

    def test_signs_beyond(self):
        self.wrong("\u0410[]", 0)
        self.wrong("A[\u00aa]", 2)
        self.wrong("A\u3000[]", 1)

    def test_levels(self):
        for inside, levels in (("B[a]", 59), ("B{}", 59), ("By[]", 59)):
            text = "A{" * levels + inside + "}" * levels
            self.assertEqual(write_tree(read_tree(text)), text)
        for inside in ("B[a]", "B{}", "B", "Bz", " ", "?", "]"):
            self.wrong("A{" * 60 + inside + "}" * 60, 120)
        self.wrong("A{" * 60, 120)
        self.wrong("A{" * 59 + "A{} B{B[]}" + "}" * 59, 59 * 2 + 6)
        self.wrong("A{" * 500, 120)

    def test_against_folding(self):
        chance = random.Random(6)
        signs = "ABCDxyabe[]{} "
        for _ in range(1500):
            text = write_tree(random_tree(chance, 4))
            for _ in range(chance.randrange(3)):
                at = chance.randrange(len(text) + 1)
                text = text[:at] + chance.choice(signs + " ]}") + text[at + chance.randrange(2):]
            at = first_wrong(text)
            if at is None:
                self.assertEqual(write_tree(read_tree(text)), text)
            else:
                self.wrong(text, at)
