import itertools

from helpers import BAR, DOT, FOOT, FULL, HOOK, Case, outline_with, some_faces

from pressalike.errors import BadFace, BadOutline, BadWord, NoInk
from pressalike.faces import Face
from pressalike.inks import ink_of

NO_INK = [[(0, 0), (4, 4), (0, 0), (2, 2)]]


def plain_gap(face, left, right):
    """The gap and the bar of [1.7], cell by cell."""
    one, two = face.ink(left), face.ink(right)
    step = max(x for y in range(4) for x in range(4) if one[y][x] == "#") + 1
    short = None
    for gap in range(3):
        tight = []
        for y in range(4):
            ends = [x for x in range(4) if one[y][x] == "#"]
            begins = [x + step + gap for x in range(4) if two[y][x] == "#"]
            if ends and begins and min(begins) - max(ends) - 1 < face.apart:
                tight.append(y)
        if not tight:
            return gap, short
        short = tight[0]
    raise AssertionError("apart is always enough")


class TestMaking(Case):
    def test_example(self):
        face = Face([FULL, HOOK])
        told = [face.letters, face.ink("b"), face.step("b"), face.gap("b", "a"), face.bar("b", "a")]
        self.assertEqual(told, ['ab', ('#...', '....', '....', '###.'), 3, 1, 3])
        self.check_error(BadWord, {"word": "c"}, face.gap, "a", "c")

    def test_one_to_four_letters(self):
        for many, letters in ((1, "a"), (2, "ab"), (3, "abc"), (4, "abcd")):
            self.assertEqual(Face([DOT] * many).letters, letters)
            self.assertEqual(Face((DOT,) * many).letters, letters)

    def test_numbers_of_outlines(self):
        self.check_error(BadFace, {"count": 0}, Face, [])
        self.check_error(BadFace, {"count": 5}, Face, [DOT] * 5)
        for outlines in (None, "abc", 3, {"a": DOT}, iter([DOT])):
            self.check_error(BadFace, {"count": None}, Face, outlines)

    def test_distances(self):
        for apart in (0, 1, 2):
            self.assertEqual(Face([DOT], apart).apart, apart)
        self.assertEqual(Face([DOT]).apart, 1)
        self.assertEqual(Face(outlines=[DOT], apart=2).apart, 2)
        for apart in (-1, 3, True, False, None, "1", 1.0):
            self.check_error(BadFace, {"count": apart}, Face, [DOT], apart)

    def test_the_order_of_errors(self):
        self.check_error(BadFace, {"count": None}, Face, None, 7)
        self.check_error(BadFace, {"count": 5}, Face, [None] * 5, 7)
        self.check_error(BadFace, {"count": 0}, Face, [], 7)
        self.check_error(BadFace, {"count": 7}, Face, [None], 7)
        self.check_error(BadOutline, {"letter": "a", "ring": None}, Face, [None, NO_INK])
        self.check_error(NoInk, {"letter": "a"}, Face, [NO_INK, None])
        self.check_error(BadOutline, {"letter": "b", "ring": 1}, Face, [DOT, [DOT[0], 5], NO_INK])
        self.check_error(NoInk, {"letter": "c"}, Face, [DOT, BAR, NO_INK, None])
        self.check_error(BadOutline, {"letter": "d", "ring": None}, Face, [DOT, BAR, FOOT, []])

    def test_outlines_that_are_changed_later(self):
        ring = [[0, 0], [1, 0], [1, 1], [0, 1]]
        outline = [ring]
        outlines = [outline, BAR]
        face = Face(outlines)
        ring[1][0] = 4
        ring[2][0] = 4
        outline.append(ring)
        outlines.pop()
        self.assertEqual(face.letters, "ab")
        self.assertEqual(face.ink("a"), ("#...", "....", "....", "...."))
        self.assertEqual(face, Face([DOT, BAR]))

    def test_letters_is_a_property(self):
        self.assertIsInstance(vars(Face)["letters"], property)


class TestLetters(Case):
    def test_inks_and_steps(self):
        face = Face([FULL, HOOK, BAR, FOOT])
        self.assertEqual([face.step(letter) for letter in "abcd"], [2, 3, 3, 4])
        for letter, outline in zip("abcd", [FULL, HOOK, BAR, FOOT]):
            self.assertEqual(face.ink(letter), ink_of(outline))

    def test_whatever_is_no_letter(self):
        face = Face([FULL, HOOK])
        for thing in ("c", "", "ab", "A", "x", None, 0, True, ["a"], ("a",), b"a"):
            self.check_error(BadWord, {"word": thing}, face.ink, thing)
            self.check_error(BadWord, {"word": thing}, face.step, thing)
            for method in (face.gap, face.bar):
                self.check_error(BadWord, {"word": thing}, method, thing, "a")
                self.check_error(BadWord, {"word": thing}, method, "a", thing)

    def test_left_is_checked_before_right(self):
        face = Face([FULL, HOOK])
        for method in (face.gap, face.bar):
            self.check_error(BadWord, {"word": "d"}, method, "d", "c")

    def test_gaps_and_bars_of_every_distance(self):
        gaps = set()
        for face in some_faces():
            for left, right in itertools.product(face.letters, repeat=2):
                told = (face.gap(left, right), face.bar(left, right))
                self.assertEqual(told, plain_gap(face, left, right))
                gaps.add((face.apart, told[0]))
        self.assertEqual(gaps, {(0, 0), (1, 0), (1, 1), (2, 0), (2, 1), (2, 2)})

    def test_a_gap_that_is_less_than_the_distance(self):
        # In the only common row the right letter begins one column later.
        face = Face([DOT, outline_with([".#..", "....", "....", "...."])], 2)
        self.assertEqual((face.gap("a", "b"), face.bar("a", "b")), (1, 0))
        self.assertEqual((face.gap("a", "a"), face.bar("a", "a")), (2, 0))
        self.assertEqual((face.gap("b", "b"), face.bar("b", "b")), (1, 0))

    def test_no_common_row(self):
        face = Face([DOT, FOOT], 2)
        self.assertEqual((face.gap("a", "b"), face.bar("a", "b")), (0, None))

    def test_the_bar_is_the_first_row_that_the_last_gap_but_one_fails_in(self):
        # With gap 0 the first row has too few blanks, with gap 1 only the third has.
        left = outline_with(["#...", "....", "#...", "...."])
        right = outline_with([".#..", "....", "#...", "...."])
        face = Face([left, right], 2)
        self.assertEqual((face.gap("a", "b"), face.bar("a", "b")), (2, 2))
        near = Face([left, right], 1)
        self.assertEqual((near.gap("a", "b"), near.bar("a", "b")), (1, 2))


class TestComparing(Case):
    def test_equal_faces(self):
        self.assertTrue(Face([DOT, BAR]) == Face((DOT, BAR), 1))
        self.assertFalse(Face([DOT, BAR]) != Face((DOT, BAR), 1))
        wound = [DOT[0][::-1]]
        self.assertTrue(Face([DOT]) == Face([wound]))

    def test_unlike_faces(self):
        face = Face([DOT, BAR])
        for other in (Face([DOT]), Face([DOT, BAR], 0), Face([BAR, DOT]), Face([DOT, FOOT]), Face([DOT, BAR, DOT])):
            self.assertFalse(face == other)
            self.assertFalse(other == face)
            self.assertTrue(face != other)

    def test_other_values(self):
        face = Face([DOT])
        for other in (None, 1, "a", [DOT], (DOT,), {"a": 1}, object()):
            self.assertFalse(face == other)
            self.assertTrue(face != other)

    def test_within_in_both_directions(self):
        small, large = Face([DOT]), Face([DOT, BAR])
        self.assertIs(small.within(large), True)
        self.assertIs(large.within(small), False)
        self.assertIs(large.within(large), True)
        self.assertIs(small.within(Face([DOT, BAR], 2)), False)
        self.assertIs(Face([BAR]).within(large), False)
        self.assertIs(Face([DOT, FOOT]).within(Face([DOT, BAR, FOOT])), False)
        self.assertIs(large.within(Face([DOT, BAR, FOOT])), True)
