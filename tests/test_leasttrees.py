import random

from helpers import Case
from test_grammar import G, marked, random_rows

from pressalike.errors import BadGrammar
from pressalike.grammar import Grammar
from pressalike.leasttrees import front, least, rest
from pressalike.pieces import MARKS, Block, Inner
from pressalike.treetext import write_tree


def row_key(row):
    string = " ".join(write_tree(piece) for piece in row) + "}"
    return sum(piece.cost for piece in row), string


def all_pieces(grammar, most):
    """All complete pieces without words and marks of a cost up to `most`, by kind."""
    found = {kind: [Block(kind, "")] if grammar.has_blocks(kind) else [] for kind in grammar.kinds}
    for cost in range(1, most + 1):
        fresh = {}
        for kind in grammar.kinds:
            if not grammar.has_blocks(kind):
                rows = all_rows(grammar, kind, 0, cost - 1, found)
                fresh[kind] = [
                    Inner(kind, "", row) for row, room in rows
                    if grammar.is_final(kind, room) and sum(part.cost for part in row) == cost - 1
                ]
        for kind in fresh:
            found[kind] = found[kind] + fresh[kind]
    return found


def all_rows(grammar, kind, room, most, found):
    """All rows of parts from the room on of a cost up to `most`, each with the room behind it."""
    told, rows = [], [((), room, 0)]
    while rows:
        told += [(row, at) for row, at, _ in rows]
        rows = [
            (row + (marked(piece, marks),), target, cost + piece.cost)
            for row, at, cost in rows
            for part, marks, target in grammar.steps(kind, at)
            for piece in found[part]
            if cost + piece.cost <= most
        ]
    return told


class TestLeast(Case):
    def test_example(self):
        self.assertEqual([write_tree(least(G, "A", "y")), len(rest(G, "A", 1))], ['Ay{Bx[]}', 0])

    def wrong(self, call, kind, *args, grammar=G):
        self.check_error(BadGrammar, {"kind": kind}, call, grammar, kind, *args)

    def test_blocks(self):
        for marks in MARKS:
            self.assertEqual(least(G, "B", marks), Block("B", marks))

    def test_refused(self):
        for kind in ("C", "D", ""):
            self.wrong(least, kind, "")
        missing = Grammar("A", {"A": (1, [], [0])})
        self.wrong(least, "B", "x", grammar=missing)
        self.wrong(least, "A", "", grammar=Grammar("A", {"A": (1, [(0, "A", "", 0)], [])}))

    def test_by_the_text_among_equal_costs(self):
        steps = [(0, "C", "", 1), (0, "B", "xy", 1), (0, "B", "y", 1), (0, "B", "x", 1)]
        grammar = Grammar("A", {"A": (2, steps, [1]), "B": None, "C": None})
        self.assertEqual(write_tree(least(grammar, "A", "")), "A{Bx[]}")
        grammar = Grammar("A", {"A": (2, steps + [(0, "B", "", 1)], [1]), "B": None, "C": None})
        # "[" comes before "x".
        self.assertEqual(write_tree(least(grammar, "A", "x")), "Ax{B[]}")
        grammar = Grammar("A", {"A": (2, [(0, "B", "xy", 1), (0, "B", "x", 1)], [1]), "B": None})
        self.assertEqual(write_tree(least(grammar, "A", "")), "A{Bx[]}")
        grammar = Grammar("A", {"A": (2, [(0, "B", "xy", 1), (0, "B", "x", 1)], [1]), "B": (1, [], [0])})
        # "y" comes before "{".
        self.assertEqual(write_tree(least(grammar, "A", "")), "A{Bxy{}}")

    def test_cost_comes_before_the_text(self):
        steps = [(0, "A", "", 1), (0, "C", "xy", 1)]
        grammar = Grammar("B", {"B": (2, steps, [1]), "A": (1, [(0, "C", "", 0)], []), "C": None})
        self.assertEqual(write_tree(least(grammar, "B", "")), "B{Cxy[]}")
        rows = {"B": (2, [(0, "A", "", 1), (0, "C", "", 1)], [1]), "A": (2, [(0, "C", "", 1)], [1]), "C": None}
        self.assertEqual(write_tree(least(Grammar("B", rows), "B", "")), "B{C[]}")

    def test_a_row_that_goes_on_comes_before_one_that_ends(self):
        # Both cost 3: "B[] B[]}" and "B{C[]}}".
        rows = {
            "A": (3, [(0, "C", "", 1), (1, "C", "", 2), (0, "B", "", 2)], [2]),
            "B": (2, [(0, "C", "", 1)], [1]), "C": None,
        }
        grammar = Grammar("A", rows)
        self.assertEqual(write_tree(least(grammar, "A", "")), "A{B{C[]}}")
        rows = {
            "A": (3, [(0, "B", "", 1), (1, "B", "", 2), (0, "C", "", 2)], [2]),
            "C": (2, [(0, "B", "", 1)], [1]), "B": None,
        }
        self.assertEqual(write_tree(least(Grammar("A", rows), "A", "")), "A{B[] B[]}")

    def test_several_levels(self):
        rows = {"A": (2, [(0, "B", "", 1)], [1]), "B": (2, [(0, "C", "y", 1)], [1]), "C": (1, [(0, "A", "", 0)], [0])}
        grammar = Grammar("A", rows)
        self.assertEqual(write_tree(least(grammar, "A", "")), "A{B{Cy{}}}")
        self.assertEqual(write_tree(least(grammar, "B", "xy")), "Bxy{Cy{}}")
        turned = Grammar("C", {"C": (2, [(0, "B", "", 1)], [1]), "B": (2, [(0, "A", "y", 1)], [1]), "A": None})
        self.assertEqual(write_tree(least(turned, "C", "")), "C{B{Ay[]}}")

    def test_against_all_pieces(self):
        chance = random.Random(11)
        compared = 0
        for _ in range(250):
            grammar = Grammar("A", random_rows(chance))
            found = all_pieces(grammar, 5)
            for kind in grammar.kinds:
                if found[kind]:
                    for marks in MARKS:
                        pieces = [marked(piece, marks) for piece in found[kind]]
                        told = min(pieces, key=lambda piece: (piece.cost, write_tree(piece)))
                        self.assertEqual(write_tree(least(grammar, kind, marks)), write_tree(told))
                    compared += len(found[kind]) > 1
                elif kind in grammar.endless():
                    self.wrong(least, kind, "", grammar=grammar)
                else:
                    self.assertGreater(least(grammar, kind, "").cost, 5)
        self.assertGreater(compared, 100)


class TestRows(Case):
    def wrong(self, call, grammar, kind, room):
        self.check_error(BadGrammar, {"kind": kind}, call, grammar, kind, room)

    def test_rows(self):
        rows = {"A": (3, [(0, "B", "x", 1), (1, "B", "", 2), (0, "C", "", 2)], [2]), "B": None,
                "C": (1, [(0, "C", "", 0)], [0])}
        grammar = Grammar("A", rows)
        self.assertEqual(front(grammar, "A", 0), ())
        self.assertEqual([write_tree(part) for part in front(grammar, "A", 1)], ["Bx[]"])
        self.assertEqual([write_tree(part) for part in front(grammar, "A", 2)], ["C{}"])
        self.assertEqual([write_tree(part) for part in rest(grammar, "A", 0)], ["C{}"])
        self.assertEqual([write_tree(part) for part in rest(grammar, "A", 1)], ["B[]"])
        self.assertEqual(rest(grammar, "A", 2), ())
        self.assertEqual({type(front(grammar, "A", 1)), type(rest(grammar, "A", 0))}, {tuple})

    def test_refused(self):
        for call in (front, rest):
            for room in (2, 3, -1):
                self.wrong(call, G, "A", room)
            for kind in ("B", "D", ""):
                self.wrong(call, G, kind, 0)

    def test_none(self):
        grammar = Grammar("A", {"A": (3, [(0, "B", "", 0), (1, "B", "", 2), (0, "C", "", 2)], [0]), "B": None,
                                "C": (1, [], [])})
        self.wrong(front, grammar, "A", 1)
        self.wrong(front, grammar, "A", 2)
        self.wrong(rest, grammar, "A", 1)
        self.wrong(rest, grammar, "A", 2)

    def test_room_zero_and_finals_need_no_parts(self):
        # The kind is endless, and its final room is never come to.
        grammar = Grammar("A", {"A": None, "C": (2, [(0, "C", "", 0)], [1])})
        self.assertEqual(front(grammar, "C", 0), ())
        self.assertEqual(rest(grammar, "C", 1), ())
        self.wrong(front, grammar, "C", 1)
        self.wrong(rest, grammar, "C", 0)

    def test_a_front_that_comes_to_no_end(self):
        grammar = Grammar("A", {"A": (2, [(0, "B", "", 1)], []), "B": None})
        self.assertEqual(front(grammar, "A", 1), (Block("B", ""),))
        self.wrong(rest, grammar, "A", 0)

    def test_two_parts(self):
        grammar = Grammar("A", {"A": (3, [(0, "B", "y", 1), (0, "B", "x", 1), (1, "C", "", 2)], [2]), "B": None,
                                "C": None})
        self.assertEqual([write_tree(part) for part in front(grammar, "A", 2)], ["Bx[]", "C[]"])
        self.assertEqual([write_tree(part) for part in rest(grammar, "A", 0)], ["Bx[]", "C[]"])

    def test_against_all_rows(self):
        chance = random.Random(12)
        compared = 0
        for _ in range(250):
            grammar = Grammar("A", random_rows(chance))
            found = all_pieces(grammar, 4)
            for kind in grammar.kinds:
                for room in range(grammar.rooms(kind)):
                    ahead = [row for row, at in all_rows(grammar, kind, 0, 4, found) if at == room]
                    rows = all_rows(grammar, kind, room, 4, found)
                    behind = [row for row, at in rows if grammar.is_final(kind, at)]
                    for call, ways in ((front, ahead), (rest, behind)):
                        if ways:
                            told = min(ways, key=row_key)
                            self.assertEqual(row_key(call(grammar, kind, room)), row_key(told))
                            compared += len(ways) > 1
                        else:
                            self.check_none_or_dear(call, grammar, kind, room)
        self.assertGreater(compared, 300)

    def check_none_or_dear(self, call, grammar, kind, room):
        try:
            row = call(grammar, kind, room)
        except BadGrammar as error:
            self.assertEqual(error.kind, kind)
        else:
            self.assertGreater(row_key(row)[0], 4)
