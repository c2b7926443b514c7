import random

from helpers import BAR, DOT, Case, random_style
from plainly import all_pieces, joint_walk

from pressalike.contexts import Entries
from pressalike.errors import BadGrammar, BadStyle
from pressalike.faces import Face
from pressalike.grammar import Grammar
from pressalike.joinedrows import summaries
from pressalike.joint import alike_at_end, joint_begin, joint_page
from pressalike.jointtext import joint_texts
from pressalike.leasttrees import least
from pressalike.pieces import Block, Inner
from pressalike.rules import Rule
from pressalike.setter import print_tree
from pressalike.sheets import Sheet
from pressalike.styles import Style
from pressalike.treetext import write_tree
from test_grammar import random_rows

FACE = Face([DOT])
BEGIN = joint_begin()
WORDS = Grammar("A", {"A": None})
FLAT = Grammar("A", {"A": (1, [(0, "B", "", 0)], [0]), "B": None})
ROOMS = Grammar("A", {"A": (2, [(0, "B", "", 1), (1, "B", "x", 0)], [1]), "B": None})
NESTED = Grammar("A", {"A": (1, [(0, "A", "x", 0), (0, "B", "", 0)], [0]), "B": None})
NO_MANUSCRIPT = Grammar("A", {"A": (1, [(0, "A", "", 0)], []), "B": None})


def style_of(*rules, faces=(FACE,), **named):
    return Style(Sheet(rules), faces, **named)


def root_key(one, two, grammar):
    return grammar.root, "", one.root_context(), two.root_context(), BEGIN


def values_at(one, two, key):
    kind, marks, first, second, _ = key
    return one.sheet.values_of(kind, marks, first), two.sheet.values_of(kind, marks, second)


def parts_needed(one, two, grammar, key, told):
    """The keys of all parts with which a piece of the key can come, if its parts leave what is told ([8.7])."""
    kind, marks, first, second, ahead = key
    values = values_at(one, two, key)
    inside = joint_page(ahead, *[value[4] and not value[5] for value in values])
    todo, seen, found = [(0, "", inside)], set(), set()
    while todo:
        front = todo.pop()
        if front in seen or front[2] == "parted":
            continue
        seen.add(front)
        room, elder, joint = front
        for part, part_marks, target in grammar.steps(kind, room):
            below = [style.sheet.below(kind, marks, context, elder) for style, context in ((one, first), (two, second))]
            needed = (part, part_marks, below[0], below[1], joint)
            found.add(needed)
            todo += [(target, part, behind) for behind in told.get(needed, {})]
    return found


class TestSummaries(Case):
    def check(self, one, two, grammar, most):
        """Compare with all pieces that cost at most so much, and follow the keys from the root on."""
        told = summaries(one, two, grammar)
        trimmed = grammar.trimmed()
        self.assertIs(type(told), dict)
        self.check_keys(one, two, trimmed, told)
        pieces = {}
        for key, row in told.items():
            kind, marks, first, second, ahead = key
            if (kind, marks) not in pieces:
                pieces[(kind, marks)] = all_pieces(trimmed, kind, marks, most, one.faces[0].letters)
            wanted = {}
            for piece in pieces[(kind, marks)]:
                behind = joint_walk(one, two, piece, first, second, ahead)
                wanted[behind] = min(wanted.get(behind, piece.cost), piece.cost)
            self.assertLessEqual(set(wanted), set(row))
            for behind, (cost, piece) in row.items():
                self.assertEqual((piece.kind, piece.marks, piece.cost), (kind, marks, cost))
                self.assertEqual(joint_walk(one, two, piece, first, second, ahead), behind)
                self.assertTrue(Grammar(kind, {at: _row(trimmed, at) for at in trimmed.kinds}).fits(_unmarked(piece)))
                if cost <= most:
                    self.assertEqual(wanted[behind], cost)
                else:
                    self.assertNotIn(behind, wanted)
        return told

    def check_keys(self, one, two, grammar, told):
        reached, todo = set(), [root_key(one, two, grammar)]
        while todo:
            key = todo.pop()
            if key not in reached:
                reached.add(key)
                self.assertNotEqual(key[4], "parted")
                if not grammar.has_blocks(key[0]):
                    todo += parts_needed(one, two, grammar, key, told)
        self.assertEqual(set(told), reached)

    def test_blocks_as_manuscripts(self):
        one, two = style_of(measure=1), style_of(measure=3)
        told = self.check(one, two, WORDS, 10)
        row = told[root_key(one, two, WORDS)]
        self.assertEqual(list(told), [root_key(one, two, WORDS)])
        texts = joint_texts(one, two, BEGIN, (0, 1, 0, False, False, False), (0, 3, 0, False, False, False))
        self.assertEqual({behind: piece.words for behind, (_, piece) in row.items()}, texts)
        self.assertEqual(row["parted"], (5, Block("A", "", ["a", "a"])))

    def test_equal_styles(self):
        for style in (style_of(), style_of(Rule(1, kind="B", kept=True), length=3), style_of(Rule(1, elder="B", space=1), length=4)):
            for grammar, most in ((FLAT, 7), (ROOMS, 7), (NESTED, 5)):
                for row in self.check(style, style, grammar, most).values():
                    self.assertNotIn("parted", row)
                    self.assertTrue(all(alike_at_end(behind) for behind in row))

    def test_a_rule_more(self):
        for length in (2, 3):
            one = style_of(Rule(1, kind="B", kept=True), length=length)
            for rule in (Rule(2, elder="B", kept=False), Rule(2, mark="x", page=True), Rule(2, mark="x", out=True)):
                two = one.with_sheet(one.sheet.with_rule(rule))
                for grammar, most in ((FLAT, 7), (ROOMS, 7), (NESTED, 5)):
                    self.check(one, two, grammar, most)

    def test_pieces_in_pieces(self):
        one = style_of(Rule(1, above="x", measure=1), Rule(1, mark="x", page=True))
        two = style_of(Rule(1, above="x", measure=2), Rule(1, mark="x", page=True), length=3)
        told = self.check(one, two, NESTED, 6)
        self.assertGreater(len(told), 6)
        self.assertEqual(told[root_key(one, two, NESTED)]["parted"][0], 9)

    def test_behind_what_is_parted_the_least_parts_follow(self):
        # The first block parts the styles; then the least way to the end is taken.
        grammar = Grammar("A", {
            "A": (3, [(0, "B", "", 1), (1, "C", "", 2), (1, "B", "x", 1), (2, "C", "y", 0)], [2]), "B": None, "C": (1, [(0, "B", "", 0)], [0]),
        })
        one, two = style_of(Rule(1, elder="", kind="B", out=True)), style_of()
        row = self.check(one, two, grammar, 6)[root_key(one, two, grammar)]
        self.assertEqual((row["parted"][0], write_tree(row["parted"][1])), (5, "A{B[a] C{}}"))

    def test_a_new_page_that_parts(self):
        one = style_of(Rule(1, elder="B", space=2), Rule(2, kind="C", page=True), length=4)
        two = style_of(Rule(1, elder="B", space=1, kept=True), Rule(2, kind="C", page=True), length=4)
        grammar = Grammar("A", {"A": (1, [(0, "B", "", 0), (0, "C", "", 0)], [0]), "B": None, "C": (1, [(0, "B", "", 0)], [0])})
        told = self.check(one, two, grammar, 7)
        rows = [row for key, row in told.items() if key[0] == "C" and list(row) == ["parted"]]
        self.assertTrue(rows)
        for row in rows:
            self.assertEqual(row["parted"], (1, least(grammar, "C", "")))

    def test_endless_kinds_and_kinds_without_a_manuscript(self):
        grammar = Grammar("A", {
            "A": (2, [(0, "B", "", 0), (0, "C", "", 0), (0, "B", "x", 1)], [0]), "B": None, "C": (1, [(0, "C", "", 0)], []),
        })
        told = self.check(style_of(), style_of(Rule(1, kind="B", kept=True)), grammar, 7)
        self.assertEqual({key[:2] for key in told}, {("A", ""), ("B", "")})

    def test_contexts_that_are_gone(self):
        out = Rule(1, mark="x", out=True)
        told = self.check(style_of(out), style_of(out), NESTED, 6)
        gone = [key for key in told if key[2][5]]
        self.assertTrue(gone)
        for key in gone:
            self.assertEqual(list(told[key]), [key[4]])

    def test_inner_pieces_that_are_left_out_make_no_new_page_due(self):
        out, both = Rule(1, mark="x", out=True), Rule(1, mark="x", out=True, page=True)
        for one, two in ((out, both), (both, out), (both, both)):
            for row in self.check(style_of(one), style_of(two), NESTED, 6).values():
                self.assertNotIn("parted", row)

    def test_the_keys_have_the_entries(self):
        one, two = style_of(Rule(1, above="x", space=1)), style_of(Rule(1, above="x", space=1), Rule(1, elder="A", measure=1))
        told = self.check(one, two, NESTED, 5)
        self.assertEqual({key[:4] for key in told}, set(Entries(NESTED, one, two)))

    def test_alike_exactly_if_all_is_alike_at_the_end(self):
        one = style_of(Rule(1, kind="B", kept=True))
        for rule in (Rule(2, elder="B", kept=False), Rule(2, elder="B", space=1), Rule(2, kind="B", face=1), Rule(2, kind="A", space=1)):
            two = one.with_sheet(one.sheet.with_rule(rule))
            row = summaries(one, two, FLAT)[root_key(one, two, FLAT)]
            is_alike = all(alike_at_end(behind) for behind in row)
            self.assertEqual(is_alike, two.sheet.rules[1] == Rule(2, kind="A", space=1) or two.sheet.rules[1].setting("face") == 1)
            for tree in all_pieces(FLAT, "A", "", 8, "a"):
                if print_tree(one, tree) != print_tree(two, tree):
                    self.assertFalse(is_alike)
            for behind, (_, tree) in row.items():
                self.assertEqual(alike_at_end(behind), print_tree(one, tree) == print_tree(two, tree))

    def test_random_ones(self):
        chance = random.Random(131)
        told = 0
        while told < 60:
            grammar = Grammar("A", random_rows(chance))
            if "A" in grammar.endless():
                continue
            told += 1
            one = random_style(chance)
            two = random_style(chance)
            if chance.random() < 0.7:
                rules = list(one.sheet)[:5]
                two = style_of(*rules, *list(two.sheet)[:1], faces=one.faces, length=one.length, measure=one.measure)
            self.check(one, two, grammar, 4)

    def test_each_dict_is_new(self):
        told = summaries(style_of(), style_of(), FLAT)
        for row in told.values():
            row.clear()
        told.clear()
        self.assertTrue(all(summaries(style_of(), style_of(), FLAT).values()))

    def test_refused(self):
        other = style_of(faces=[Face([DOT, BAR])])
        self.check_error(BadStyle, {"field": "faces"}, summaries, style_of(), other, FLAT)
        self.check_error(BadStyle, {"field": "faces"}, summaries, other, style_of(), NO_MANUSCRIPT)
        self.check_error(BadGrammar, {"kind": "A"}, summaries, style_of(), style_of(length=3), NO_MANUSCRIPT)


def _row(grammar, kind):
    """The row of a kind, as a Grammar is made of it."""
    if grammar.has_blocks(kind):
        return None
    rooms = range(grammar.rooms(kind))
    steps = [(room,) + step for room in rooms for step in grammar.steps(kind, room)]
    return len(rooms), steps, [room for room in rooms if grammar.is_final(kind, room)]


def _unmarked(piece):
    return Block(piece.kind, "", piece.words) if piece.is_block else Inner(piece.kind, "", piece.parts)
