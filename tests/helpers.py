"""What the tests share."""

import unittest

from pressalike.faces import Face
from pressalike.pieces import Block, Inner
from pressalike.rules import VALUE_NAMES, Rule, values_for
from pressalike.sheets import Sheet
from pressalike.styles import Style

FULL = [[[0, 0], (2, 0), (2, 4), (0, 4)]]
HOOK = [[(0, 0), (1, 0), (1, 1), (0, 1)], [(0, 3), (3, 3), (3, 4), (0, 4)]]
DOT = [[(0, 0), (1, 0), (1, 1), (0, 1)]]
BAR = [[(0, 0), (3, 0), (3, 1), (0, 1)]]
FOOT = [[(0, 3), (4, 3), (4, 4), (0, 4)]]
DOT_INK = ("#...", "....", "....", "....")


def box(x0, y0, x1, y1):
    """Return a ring around the cells from (x0, y0) up to, but without, (x1, y1)."""
    return [(x0, y0), (x1, y0), (x1, y1), (x0, y1)]


def outline_with(ink):
    """Return an outline of at most three boxes for an ink with at most three runs of cells."""
    rings = []
    for y in range(4):
        x = 0
        while x < 4:
            stop = x
            while stop < 4 and ink[y][stop] == "#":
                stop += 1
            if stop > x:
                rings.append(box(x, y, stop, y + 1))
            x = stop + 1
    return rings


def some_faces():
    """Return faces of one to four letters with all distances."""
    slope = [[(0, 0), (4, 0), (0, 4)]]
    other = [[(4, 0), (4, 4), (0, 4)]]
    late = outline_with([".#..", "....", "....", "...."])
    rows = [[DOT], [DOT, BAR], [FULL, HOOK], [DOT, late], [BAR, FOOT, slope], [slope, other, HOOK, DOT], [other, FULL, FOOT, BAR]]
    return [Face(outlines, apart) for outlines in rows for apart in (0, 1, 2)]


def random_rule(chance):
    pattern = [chance.choice(["", "", "", text]) for text in (
        chance.choice("ABC"), chance.choice("xy"), chance.choice("ABC"), chance.choice("xy"), chance.choice("ABC"))]
    names = chance.sample(VALUE_NAMES, chance.randrange(1, 4))
    return Rule.made(chance.randrange(4), pattern, [(name, chance.choice(values_for(name))) for name in names])


def random_style(chance, faces=(Face([DOT]),)):
    """A style with up to six rules and one or two of the faces, which cover the same letters."""
    sheet = Sheet([random_rule(chance) for _ in range(chance.randrange(7))])
    told = [chance.choice(faces) for _ in range(chance.randrange(1, 3))]
    return Style(sheet, told, length=chance.randrange(2, 5), measure=chance.randrange(1, 7))


def random_words(chance, letters):
    many = chance.choice([0, 1, 1, 1, 2, 2, 3, 5])
    return ["".join(chance.choice(letters) for _ in range(chance.choice([1, 1, 1, 2, 3]))) for _ in range(many)]


def random_piece(chance, levels, letters="a"):
    """A piece of at most so many levels."""
    kind, marks = chance.choice("ABC"), chance.choice(["", "x", "y", "xy"])
    if levels == 1 or chance.random() < 0.6:
        return Block(kind, marks, random_words(chance, letters))
    return Inner(kind, marks, [random_piece(chance, levels - 1, letters) for _ in range(chance.randrange(5))])


class Case(unittest.TestCase):
    """A test case that also compares errors with their attributes."""

    def check_error(self, error, attributes, call, *args, **named):
        with self.assertRaises(error) as caught:
            call(*args, **named)
        self.assertIs(type(caught.exception), error)
        self.assertEqual(vars(caught.exception), attributes)
        for name, value in attributes.items():
            self.assertIs(type(getattr(caught.exception, name)), type(value))
