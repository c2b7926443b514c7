import random

from helpers import Case, box
from test_outlines import plain_winding, random_ring

from pressalike.inks import blanks, ink_of, leftmost, rightmost, step_of

INK = ("....", ".##.", "....", "....")
EMPTY = ("....",) * 4


class TestInks(Case):
    def test_examples(self):
        self.assertEqual(ink_of([[(0, 0), (4, 0), (0, 4)]]), ('###.', '##..', '#...', '....'))
        self.assertEqual(ink_of([[(0, 0), (4, 0), (4, 4)]]), ('####', '.###', '..##', '...#'))
        told = [leftmost(INK, 1), rightmost(INK, 1), leftmost(INK, 0), step_of(INK)]
        self.assertEqual(told, [1, 2, None, 3])
        self.assertEqual(blanks((".#..", "#...", "....", "...."), ("#...", "....", "....", "...."), 0, 1), 1)

    def test_ink_of_is_a_tuple_of_texts(self):
        told = ink_of(([[0, 0], [1, 0], [1, 1], [0, 1]],))
        self.assertIs(type(told), tuple)
        self.assertEqual(told, ("#...", "....", "....", "...."))

    def test_no_ink(self):
        self.assertEqual(ink_of([]), EMPTY)
        self.assertEqual(ink_of(()), EMPTY)
        self.assertEqual(ink_of([box(0, 0, 2, 2), box(0, 0, 2, 2)[::-1]]), EMPTY)
        self.assertEqual(step_of(EMPTY), 0)
        for row in range(4):
            self.assertEqual((leftmost(EMPTY, row), rightmost(EMPTY, row)), (None, None))

    def test_backward_rings_have_ink(self):
        self.assertEqual(ink_of([box(1, 1, 3, 3)[::-1]]), ("....", ".##.", ".##.", "...."))

    def test_a_hole(self):
        self.assertEqual(ink_of([box(0, 0, 4, 4), box(1, 1, 3, 3)[::-1]]), ("####", "#..#", "#..#", "####"))
        self.assertEqual(ink_of([box(0, 0, 4, 4), box(1, 1, 3, 3)]), ("####",) * 4)

    def test_against_windings(self):
        chance = random.Random(2)
        for _ in range(500):
            rings = [random_ring(chance) for _ in range(chance.randrange(1, 4))]
            told = tuple(
                "".join("#" if plain_winding(rings, x, y) else "." for x in range(4))
                for y in range(4)
            )
            self.assertEqual(ink_of(rings), told)

    def test_leftmost_and_rightmost(self):
        ink = ("#..#", ".#..", "...#", "....")
        self.assertEqual([leftmost(ink, row) for row in range(4)], [0, 1, 3, None])
        self.assertEqual([rightmost(ink, row) for row in range(4)], [3, 1, 3, None])

    def test_steps(self):
        for column in range(4):
            cells = "." * column + "#" + "." * (3 - column)
            self.assertEqual(step_of(("....", cells, "....", "....")), column + 1)
        self.assertEqual(step_of(("#...", "..#.", ".#..", "....")), 3)

    def test_blanks(self):
        left, right = ("##..", "#...", "....", "..#."), ("..#.", "....", "#...", "#...")
        self.assertEqual([blanks(left, right, row, 0) for row in range(4)], [3, None, None, 0])
        self.assertEqual([blanks(left, right, row, 1) for row in range(4)], [4, None, None, 1])
        self.assertEqual([blanks(left, right, row, 2) for row in range(4)], [5, None, None, 2])

    def test_blanks_is_none_where_one_has_no_ink(self):
        self.assertIsNone(blanks(INK, EMPTY, 1, 0))
        self.assertIsNone(blanks(EMPTY, INK, 1, 0))
        self.assertIsNone(blanks(EMPTY, EMPTY, 1, 0))
        self.assertEqual(blanks(INK, INK, 1, 0), 1)
