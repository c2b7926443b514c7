import inspect
import random
from fractions import Fraction

from helpers import Case, DOT, box

from pressalike.errors import BadOutline
from pressalike.outlines import each_side, outline_of, winding

RING = [(0, 0), (2, 0), (0, 2)]
OTHER = [(1, 1), (3, 1), (3, 3), (1, 3)]


def plain_winding(rings, x, y):
    """The words of [1.3] and [1.4] with fractions."""
    total = 0
    for ring in rings:
        for at in range(len(ring)):
            (x0, y0), (x1, y1) = ring[at], ring[(at + 1) % len(ring)]
            if (y0 <= y and y1 >= y + 1) or (y1 <= y and y0 >= y + 1):
                crossing = x0 + Fraction(x1 - x0, y1 - y0) * (y + Fraction(1, 2) - y0)
                if crossing > x + Fraction(1, 2):
                    total += 1 if y1 > y0 else -1
    return total


def random_ring(chance):
    while True:
        ring = [(chance.randrange(5), chance.randrange(5)) for _ in range(chance.randrange(3, 9))]
        if all(ring[at] != ring[at - 1] for at in range(len(ring))):
            return ring


class TestOutlineOf(Case):
    def wrong(self, ring, thing, letter="a"):
        self.check_error(BadOutline, {"letter": letter, "ring": ring}, outline_of, letter, thing)

    def test_examples(self):
        self.assertEqual(outline_of("a", [[[0, 0], (2, 0), (0, 2)]]), (((0, 0), (2, 0), (0, 2)),))
        thing = [[(0, 0), (2, 0), (0, 2)], [(0, 0), (2, 0), (0, 0)]]
        self.wrong(1, thing, "b")

    def test_lists_and_tuples_become_tuples(self):
        told = outline_of("a", ([[0, 0], [4, 0], [0, 4]], ((1, 1), [2, 1], (1, 2))))
        self.assertEqual(told, (((0, 0), (4, 0), (0, 4)), ((1, 1), (2, 1), (1, 2))))
        self.assertEqual({type(told)} | {type(ring) for ring in told}, {tuple})
        self.assertEqual({type(corner) for ring in told for corner in ring}, {tuple})

    def test_what_is_passed_is_not_changed(self):
        thing = [[[0, 0], [4, 0], [0, 4]]]
        outline_of("a", thing)
        self.assertEqual(thing, [[[0, 0], [4, 0], [0, 4]]])

    def test_numbers_of_rings(self):
        self.assertEqual(len(outline_of("a", [RING])), 1)
        self.assertEqual(len(outline_of("a", [RING] * 3)), 3)
        self.wrong(None, [])
        self.wrong(None, ())
        self.wrong(None, [RING] * 4)

    def test_what_is_no_row_of_rings(self):
        for thing in (None, 5, True, "abc", {"a": 1}, {0: RING}, iter([RING])):
            self.wrong(None, thing, "z")

    def test_the_number_of_rings_comes_before_the_rings(self):
        self.wrong(None, [5, 5, 5, 5])

    def test_numbers_of_corners(self):
        eight = [(0, 0), (1, 0), (2, 0), (3, 0), (4, 0), (4, 1), (3, 1), (2, 1)]
        self.assertEqual(outline_of("a", [eight]), (tuple(eight),))
        self.assertEqual(len(outline_of("a", [RING])[0]), 3)
        self.wrong(0, [eight + [(1, 1)]])
        self.wrong(0, [[(0, 0), (1, 1)]])
        self.wrong(0, [[]])

    def test_what_is_no_ring(self):
        for ring in (None, 3, "abc", {(0, 0): 1, (1, 0): 2, (1, 1): 3}, [1, 2, 3], [(0, 0), (1, 0), None]):
            self.wrong(0, [ring])
            self.wrong(1, [RING, ring, RING])
            self.wrong(2, [RING, RING, ring])

    def test_what_is_no_corner(self):
        for corner in (None, 1, "01", (0,), (0, 1, 2), (), {0: 0, 1: 1}):
            self.wrong(0, [[(2, 2), (3, 3), corner]])
            self.wrong(0, [[corner, (2, 2), (3, 3)]])

    def test_numbers_of_a_corner(self):
        self.assertEqual(outline_of("a", [[(0, 4), (4, 0), (4, 4)]]), (((0, 4), (4, 0), (4, 4)),))
        for number in (-1, 5, True, False, "1", 1.0, None, 10 ** 20):
            self.wrong(0, [[(number, 2), (3, 3), (3, 2)]])
            self.wrong(0, [[(2, number), (3, 3), (3, 2)]])

    def test_equal_neighbours(self):
        self.wrong(0, [[(0, 0), (0, 0), (2, 2)]])
        self.wrong(0, [[(0, 0), (2, 2), (2, 2)]])
        self.wrong(0, [[(0, 0), (2, 2), (0, 0)]])
        self.wrong(0, [[(0, 0), [0, 0], (2, 2)]])
        self.wrong(0, [[[0, 0], (2, 2), (0, 0)]])

    def test_equal_corners_that_are_no_neighbours(self):
        ring = [(0, 0), (2, 2), (0, 0), (1, 2)]
        self.assertEqual(outline_of("a", [ring]), (tuple(ring),))

    def test_the_first_wrong_ring(self):
        self.wrong(1, [RING, [(0, 0)], None])
        self.wrong(0, [None, [(0, 0)], RING])

    def test_the_letter_is_any_text(self):
        self.wrong(None, None, "")
        self.wrong(None, None, "a long text")


class TestEachSide(Case):
    def test_example(self):
        told = list(each_side(((0, 0), (2, 0), (0, 2))))
        self.assertEqual(told, [((0, 0), (2, 0)), ((2, 0), (0, 2)), ((0, 2), (0, 0))])

    def test_is_a_generator(self):
        self.assertTrue(inspect.isgeneratorfunction(each_side))

    def test_eight_corners(self):
        ring = outline_of("a", [[(0, 0), (1, 0), (2, 0), (3, 0), (4, 0), (4, 1), (3, 1), [2, 1]]])[0]
        told = list(each_side(ring))
        self.assertEqual([side[0] for side in told], list(ring))
        self.assertEqual([side[1] for side in told], list(ring[1:] + ring[:1]))


class TestWinding(Case):
    def test_example(self):
        self.assertEqual(winding([[(0, 0), (2, 0), (2, 2), (0, 2)]], 1, 1), 1)

    def test_outside(self):
        rings = [box(1, 1, 3, 3)]
        told = [[winding(rings, x, y) for x in range(4)] for y in range(4)]
        self.assertEqual(told, [[0, 0, 0, 0], [0, 1, 1, 0], [0, 1, 1, 0], [0, 0, 0, 0]])

    def test_backward(self):
        self.assertEqual(winding([box(0, 0, 2, 2)[::-1]], 1, 1), -1)

    def test_no_rings(self):
        self.assertEqual(winding([], 0, 0), 0)
        self.assertEqual(winding((), 3, 3), 0)

    def test_lists_and_tuples(self):
        self.assertEqual(winding(([[0, 0], [2, 0], [2, 2], [0, 2]],), 1, 1), 1)

    def test_rings_add_up(self):
        self.assertEqual(winding([box(0, 0, 4, 4), box(1, 1, 3, 3)], 1, 1), 2)
        self.assertEqual(winding([box(0, 0, 4, 4), box(1, 1, 3, 3)[::-1]], 1, 1), 0)
        self.assertEqual(winding([box(0, 0, 4, 4), box(1, 1, 3, 3)[::-1]], 0, 0), 1)

    def test_sides_that_cross(self):
        bow = [[(0, 0), (4, 4), (4, 0), (0, 4)]]
        told = [[winding(bow, x, y) for x in range(4)] for y in range(4)]
        self.assertEqual(told, [[0, 0, 0, -1], [1, 0, -1, -1], [1, 0, -1, -1], [0, 0, 0, -1]])

    def test_sides_that_lie_on_one_another(self):
        there_and_back = [[(2, 0), (2, 4), (2, 0), (2, 4)]]
        self.assertEqual([winding(there_and_back, x, 1) for x in range(4)], [0, 0, 0, 0])
        twice = [box(0, 0, 2, 2), box(0, 0, 2, 2)]
        self.assertEqual(winding(twice, 0, 0), 2)

    def test_a_middle_on_a_side_lies_to_the_right_of_it(self):
        slope = [[(0, 0), (4, 4), (4, 0)]]
        for at in range(4):
            # The middle of (at, at) lies on the slope; only the other side is to the right of it.
            self.assertEqual(winding(slope, at, at), -1)
        left = [[(0, 0), (4, 4), (0, 4)]]
        for at in range(4):
            self.assertEqual(winding(left, at, at), 0)

    def test_a_crossing_between_whole_numbers(self):
        # The slope crosses the rows at 3/8, 9/8, 15/8 and 21/8.
        slope = [[(0, 0), (3, 4), (0, 4)]]
        told = [[winding(slope, x, y) for x in range(4)] for y in range(4)]
        self.assertEqual(told, [[0, 0, 0, 0], [1, 0, 0, 0], [1, 1, 0, 0], [1, 1, 1, 0]])

    def test_against_fractions(self):
        chance = random.Random(1)
        for _ in range(3000):
            rings = [random_ring(chance) for _ in range(chance.randrange(1, 4))]
            for y in range(4):
                for x in range(4):
                    self.assertEqual(winding(rings, x, y), plain_winding(rings, x, y), (rings, x, y))

    def test_nothing_is_changed(self):
        rings = [[list(corner) for corner in ring] for ring in DOT]
        winding(rings, 0, 0)
        self.assertEqual(rings, [[list(corner) for corner in ring] for ring in DOT])
