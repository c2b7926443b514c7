import itertools
import random

from helpers import Case, random_grammar

from pressalike.endings import both_final, both_rooms, endings, holders, joint_steps
from pressalike.grammar import Grammar
from pressalike.leasttrees import rest


class TestEndings(Case):
    def walk(self, grammar, kind, room, parts):
        for part in parts:
            room = grammar.follow(kind, room, (part.kind, part.marks))
        return room

    def test_from_one_room_and_from_two(self):
        chance = random.Random(421)
        for _ in range(200):
            grammar = random_grammar(chance).trimmed()
            found = endings(grammar)
            for kind in grammar.kinds:
                for one, two in itertools.combinations_with_replacement(range(grammar.rooms(kind)), 2):
                    parts = found.get((kind, (one, two)))
                    self.assertIs(parts is None, not self.has_end(grammar, kind, (one, two)))
                    if parts is not None:
                        self.assertTrue(grammar.is_final(kind, self.walk(grammar, kind, one, parts)))
                        self.assertTrue(grammar.is_final(kind, self.walk(grammar, kind, two, parts)))
                    if one == two and parts is not None:
                        least = rest(grammar, kind, one)
                        self.assertEqual(sum(part.cost for part in parts), sum(part.cost for part in least))

    def has_end(self, grammar, kind, rooms):
        seen, todo = set(), [rooms]
        while todo:
            at = todo.pop()
            if both_final(grammar, kind, at):
                return True
            if at not in seen:
                seen.add(at)
                todo += [both_rooms(one, two) for _, _, one, two in joint_steps(grammar, kind, at)]
        return False

    def test_least_rows(self):
        grammar = Grammar("A", {
            "A": (3, [(0, "B", "", 1), (1, "B", "", 2), (2, "B", "", 2), (0, "C", "", 2), (1, "C", "", 2), (1, "C", "x", 1)], [2]),
            "B": None, "C": (3, [(0, "B", "", 1), (1, "B", "", 2)], [2]),
        })
        found = endings(grammar)
        # A C would be enough, but it costs more than two blocks.
        self.assertEqual([part.kind for part in found[("A", (0, 1))]], ["B", "B"])
        self.assertEqual(found[("A", (2, 2))], ())
        self.assertEqual([part.kind for part in found[("A", (1, 2))]], ["B"])
        self.assertNotIn(("B", (0, 0)), found)
        self.assertNotIn(("C", (0, 2)), found)

class TestHolders(Case):
    def test_each_deed(self):
        grammar = Grammar("A", {"A": (2, [(0, "C", "", 1)], [1]), "B": None, "C": (1, [(0, "B", "", 0)], [0])}).trimmed()
        self.assertEqual(list(map(sorted, [holders(grammar, deed) for deed in ("words", "marks", "parts", "")])), [
            ["A", "B", "C"], ["A", "B", "C"], ["A", "C"], []])
        fixed = Grammar("A", {"A": (2, [(0, "C", "", 1)], [1]), "C": (2, [(0, "B", "", 1)], [1]), "B": (1, [], [0])})
        self.assertEqual(list(map(sorted, [holders(fixed, deed) for deed in ("words", "marks", "parts")])), [[], ["A", "B", "C"], []])
