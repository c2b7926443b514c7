"""What the tests share."""

import unittest

from pressalike.faces import Face
from pressalike.grammar import Grammar
from pressalike.leasttrees import rest
from pressalike.pieces import Block, Inner
from pressalike.rules import VALUE_NAMES, Rule, values_for
from pressalike.sheets import Sheet
from pressalike.styles import Style

FULL = [[[0, 0], (2, 0), (2, 4), (0, 4)]]
HOOK = [[(0, 0), (1, 0), (1, 1), (0, 1)], [(0, 3), (3, 3), (3, 4), (0, 4)]]
DOT = [[(0, 0), (1, 0), (1, 1), (0, 1)]]
BAR = [[(0, 0), (3, 0), (3, 1), (0, 1)]]
FOOT = [[(0, 3), (4, 3), (4, 4), (0, 4)]]
DOT_INK = ("#...", "....", "....", "....")


def box(x0, y0, x1, y1):
    """Return a ring around the cells from (x0, y0) up to, but without, (x1, y1)."""
    return [(x0, y0), (x1, y0), (x1, y1), (x0, y1)]


def outline_with(ink):
    """Return an outline of at most three boxes for an ink with at most three runs of cells."""
    rings = []
    for y in range(4):
        x = 0
        while x < 4:
            stop = x
            while stop < 4 and ink[y][stop] == "#":
                stop += 1
            if stop > x:
                rings.append(box(x, y, stop, y + 1))
            x = stop + 1
    return rings


def some_faces():
    """Return faces of one to four letters with all distances."""
    slope = [[(0, 0), (4, 0), (0, 4)]]
    other = [[(4, 0), (4, 4), (0, 4)]]
    late = outline_with([".#..", "....", "....", "...."])
    rows = [[DOT], [DOT, BAR], [FULL, HOOK], [DOT, late], [BAR, FOOT, slope], [slope, other, HOOK, DOT], [other, FULL, FOOT, BAR]]
    return [Face(outlines, apart) for outlines in rows for apart in (0, 1, 2)]


def random_rule(chance):
    pattern = [chance.choice(["", "", "", text]) for text in (
        chance.choice("ABC"), chance.choice("xy"), chance.choice("ABC"), chance.choice("xy"), chance.choice("ABC"))]
    names = chance.sample(VALUE_NAMES, chance.randrange(1, 4))
    return Rule.made(chance.randrange(4), pattern, [(name, chance.choice(values_for(name))) for name in names])


def random_style(chance, faces=(Face([DOT]),)):
    """A style with up to six rules and one or two of the faces, which cover the same letters."""
    sheet = Sheet([random_rule(chance) for _ in range(chance.randrange(7))])
    told = [chance.choice(faces) for _ in range(chance.randrange(1, 3))]
    return Style(sheet, told, length=chance.randrange(2, 5), measure=chance.randrange(1, 7))


def random_words(chance, letters):
    many = chance.choice([0, 1, 1, 1, 2, 2, 3, 5])
    return ["".join(chance.choice(letters) for _ in range(chance.choice([1, 1, 1, 2, 3]))) for _ in range(many)]


def random_piece(chance, levels, letters="a"):
    """A piece of at most so many levels."""
    kind, marks = chance.choice("ABC"), chance.choice(["", "x", "y", "xy"])
    if levels == 1 or chance.random() < 0.6:
        return Block(kind, marks, random_words(chance, letters))
    return Inner(kind, marks, [random_piece(chance, levels - 1, letters) for _ in range(chance.randrange(5))])


def random_grammar(chance):
    """A grammar with manuscripts: most of its rooms lead forward, so that some of its pieces have no greatest number of
    parts and some do."""
    while True:
        kinds = chance.choice(["AB", "ABC", "ABC"])
        rows = {kind: _random_row(chance, kinds, kind) for kind in kinds[:-1]}
        rows[kinds[-1]] = None
        grammar = Grammar("A", rows)
        if "A" not in grammar.endless():
            return grammar


def _random_row(chance, kinds, kind):
    rooms = chance.choice([1, 2, 3, 3])
    steps = {}
    for room in range(rooms):
        for _ in range(chance.choice([1, 1, 2])):
            part = chance.choice(kinds if chance.random() < 0.1 else kinds[kinds.index(kind) + 1:])
            target = room if chance.random() < 0.15 else room + 1
            if target < rooms or rooms == 1:
                steps[(room, part, chance.choice(["", "", "x", "y"]))] = min(target, rooms - 1)
    finals = [rooms - 1] + [room for room in range(rooms) if chance.random() < 0.3]
    return rooms, [step + (target,) for step, target in steps.items()], finals


def random_manuscript(chance, grammar, letters="a", levels=4):
    """A manuscript of the grammar; below so many levels it has the least parts."""
    return _random_inside(chance, grammar.trimmed(), (grammar.root, ""), letters, levels)


def _random_inside(chance, grammar, label, letters, levels):
    kind, marks = label
    if grammar.has_blocks(kind):
        return Block(kind, marks, random_words(chance, letters))
    room, parts = 0, []
    while levels > 0 and len(parts) < 6 and not (grammar.is_final(kind, room) and chance.random() < 0.25):
        steps = grammar.steps(kind, room)
        if not steps:
            break
        part, part_marks, room = chance.choice(steps)
        parts.append(_random_inside(chance, grammar, (part, part_marks), letters, levels - 1))
    return Inner(kind, marks, tuple(parts) + rest(grammar, kind, room))


class Case(unittest.TestCase):
    """A test case that also compares errors with their attributes."""

    def check_error(self, error, attributes, call, *args, **named):
        with self.assertRaises(error) as caught:
            call(*args, **named)
        self.assertIs(type(caught.exception), error)
        self.assertEqual(vars(caught.exception), attributes)
        for name, value in attributes.items():
            self.assertIs(type(getattr(caught.exception, name)), type(value))
