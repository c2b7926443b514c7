import random

from helpers import BAR, DOT, HOOK, Case, random_grammar, random_style
from plainly import Set, all_pieces, each_edit, in_order

from pressalike.edits import Drop, Put
from pressalike.errors import BadGrammar, NoRank, NotEndless
from pressalike.faces import Face
from pressalike.grammar import Grammar
from pressalike.keptbook import KeptBook
from pressalike.loops import loop_samples
from pressalike.ownparts import edit_ends
from pressalike.pairs import pair_ends
from pressalike.reach import Reach, reach
from pressalike.rules import Rule
from pressalike.sheets import Sheet
from pressalike.styles import Style

FACE = Face([DOT])
TOP, OPEN = ("top", 0, 0), ("open", 1, 0)
FLAT = Grammar("A", {"A": (1, [(0, "B", "", 0)], [0]), "B": None})
MARKED = Grammar("A", {"A": (1, [(0, "B", "", 0), (0, "B", "x", 0)], [0]), "B": None})
NESTED = Grammar("A", {"A": (1, [(0, "A", "x", 0), (0, "B", "", 0)], [0]), "B": None})
# Two pieces with up to two blocks each; the last block of each of them may have marks.
FOUR = Grammar("A", {
    "A": (3, [(0, "C", "", 1), (1, "C", "", 2)], [1, 2]), "B": None,
    "C": (3, [(0, "B", "", 1), (1, "B", "", 2), (1, "B", "x", 2)], [0, 1, 2]),
})
NO_MANUSCRIPT = Grammar("A", {"A": (1, [(0, "A", "", 0)], []), "B": None})
NO_BLOCKS = Grammar("A", {"A": (2, [(0, "A", "x", 1), (1, "A", "", 1)], [0, 1])})
FIXED = Grammar("A", {"A": (2, [(0, "B", "", 1)], [1]), "B": None})
DEEDS = ("words", "marks", "parts")


def style_of(*rules, faces=(FACE,), **named):
    return Style(Sheet(rules), faces, **named)


# Two parts on each of six levels; a mark that stands above already leaves everything out.
DEEP = Grammar("A", {
    "A": (3, [(0, "C", "", 1), (1, "C", "", 2)], [2]), "B": None,
    "C": (3, [(room,) + label + (room + 1,) for room in (0, 1) for label in (("A", "x"), ("A", "y"), ("B", ""))], [2]),
})
DEEP_STYLE = style_of(Rule(2, above="x", mark="x", out=True), Rule(2, above="y", mark="y", out=True))


def plain_entries(style, tree, edit):
    """The edit entries and the behind entries of one edit of a manuscript, by [9.5] and [9.6]."""
    path, context = edit.path, style.root_context()
    shift = {Put: -1, Drop: 1}.get(type(edit), 0)
    old = {at: standing for at, _, _, standing in Set(style, tree, context, TOP).ahead}
    found = set()
    for at, piece, told, standing in Set(style, edit.apply(tree), context, TOP).ahead:
        same = edit.DEED == "words" or (edit.DEED == "marks" and tree.piece_at(path).marks == edit.marks)
        if at == path[:len(at)] and (at != path or same):
            found.add(("edit", piece.kind, piece.marks, told, standing))
        elif at > path and not is_own(edit, at):
            former = at
            if shift != 0 and at[:len(path) - 1] == path[:-1]:
                former = path[:-1] + (at[len(path) - 1] + shift,) + at[len(path):]
            if old[former] != standing and not told[5]:
                pair = (min(old[former], standing), max(old[former], standing))
                found.add(("behind", piece.kind, piece.marks, told, pair))
    return found


def is_own(edit, at):
    """Whether the piece at this path of the new manuscript is, or lies beneath, one that is no piece behind."""
    path = edit.path
    if edit.DEED == "marks" or isinstance(edit, Put):
        if at[:len(path)] == path:
            return True
    if edit.DEED == "parts":
        behind = path[:-1] + (path[-1] + int(isinstance(edit, Put)),)
        return at[:len(path)] == behind
    return False


class ReachCase(Case):
    def check_edit(self, style, grammar, deed, tree, edit):
        """The number of counted blocks of an edit as in [9.4], in a kept book."""
        self.assertEqual(edit.DEED, deed)
        self.assertTrue(grammar.fits(tree) and grammar.fits(edit.apply(tree)))
        return KeptBook(style, tree).change(edit).behind

    def check(self, style, grammar, deed, most=5, spent=3):
        """The reach, compared with all edits of all manuscripts that cost at most so much."""
        told = reach(style, grammar, deed)
        self.assertIsInstance(told, Reach)
        self.assertEqual((told.deed, told.is_endless), (deed, told.most is None))
        trimmed, letters = grammar.trimmed(), style.faces[0].letters
        entries = set()
        is_held = False
        for tree in all_pieces(trimmed, grammar.root, "", most, letters):
            for edit in each_edit(trimmed, tree, deed, spent, letters):
                if edit.DEED != "marks" or edit.path != () or edit.marks == "":
                    is_held = True
                    behind = self.check_edit(style, grammar, deed, tree, edit)
                    if told.most is not None:
                        self.assertLessEqual(behind, told.most)
                        entries |= plain_entries(style, tree, edit)
        if told.is_endless:
            self.assertEqual((told.tree, told.edit), (None, None))
            self.check_endless(style, grammar, deed, told)
        else:
            self.assertGreaterEqual(told.tree is not None, is_held)
            self.check_ranks(style, grammar, deed, told, entries)
        return told

    def check_endless(self, style, grammar, deed, told):
        self.check_error(NoRank, {"deed": deed}, told.ranks)
        for number in (0, 1, 5, 12):
            tree, edit = told.sample(number)
            self.assertGreaterEqual(self.check_edit(style, grammar, deed, tree, edit), number)

    def check_ranks(self, style, grammar, deed, told, entries):
        self.check_error(NotEndless, {"deed": deed}, told.sample, 0)
        self.check_error(NotEndless, {"deed": deed}, told.sample, 12)
        rows = told.ranks()
        self.assertEqual(told.tree is None, rows == [] or told.most > 60)
        self.assertEqual(told.edit is None, told.tree is None)
        if told.tree is not None:
            self.assertEqual(self.check_edit(style, grammar, deed, told.tree, told.edit), told.most)
        root = ("edit", grammar.root, "", style.root_context(), TOP)
        self.assertEqual(max([row[6] for row in rows if row[:5] == root], default=0), told.most)
        self.assertLessEqual(entries, {row[:5] for row in rows})
        self.assertEqual([row[:5] for row in rows], sorted(row[:5] for row in rows))
        self.assertEqual(len({row[:6] for row in rows}), len(rows))
        for row in rows:
            self.assertEqual(len(row), 7)

    def check_rows_by_single_calls(self, style, grammar, deed, rows, most=None):
        groups = {}
        for row in rows:
            groups.setdefault(row[:5], []).append(row[5:])
        for (sort, kind, marks, context, ahead), told in list(groups.items())[:most]:
            self.assertEqual([end for end, _ in told], in_order([end for end, _ in told]))
            if sort == "behind":
                wanted = pair_ends(style, grammar, kind, marks, context, *ahead)
            else:
                wanted = edit_ends(style, grammar, deed, kind, marks, context, ahead)
            self.assertEqual(told, [row[:2] for row in wanted])


class TestExamples(ReachCase):
    def setUp(self):
        self.grammar = Grammar("A", {"A": (1, [(0, "B", "", 0)], [0]), "B": None})
        face = Face([[[(0, 0), (1, 0), (1, 1), (0, 1)]]])
        self.style = Style(Sheet([Rule(1, kind="B", space=1)]), [face])
        self.plain = self.style.with_sheet(Sheet([]))

    def test_loop_samples(self):
        told = [number > 0 for tree, edit, number in loop_samples(self.plain, self.grammar, "words", 2)]
        self.assertEqual(told, [True, True])

    def test_reach(self):
        told = reach(self.style, self.grammar, "words")
        self.assertEqual((told.most, told.is_endless, len(told.ranks())), (1, False, 10))
        self.assertEqual((reach(self.plain, self.grammar, "words").most, reach(self.style, self.grammar, "marks").most), (None, 0))


class TestReach(ReachCase):
    def most(self, style, grammar, deed, **named):
        return self.check(style, grammar, deed, **named).most

    def test_no_edit_of_the_deed(self):
        for style in (style_of(), style_of(Rule(1, mark="x", page=True))):
            for grammar, deed in ((NO_BLOCKS, "words"), (FIXED, "parts"), (Grammar("A", {"A": None}), "parts")):
                told = self.check(style, grammar, deed)
                self.assertEqual((told.most, told.tree, told.edit, told.ranks()), (0, None, None, []))

    def test_edits_that_are_felt_nowhere(self):
        for grammar, deed in ((FIXED, "words"), (FIXED, "marks"), (FLAT, "marks"), (Grammar("A", {"A": None}), "words"), (NO_BLOCKS, "parts")):
            told = self.check(style_of(), grammar, deed)
            self.assertEqual(told.most, 0)
            self.assertIsNotNone(told.tree)

    def test_numbers(self):
        style = style_of()
        self.assertEqual([self.most(style, FOUR, deed) for deed in DEEDS], [3, 0, 2])
        style = style_of(Rule(1, mark="x", kept=True), length=3)
        self.assertEqual([self.most(style, FOUR, deed, spent=2) for deed in DEEDS], [3, 2, 2])
        # Marks that leave a block out.
        style = style_of(Rule(1, mark="x", out=True))
        self.assertEqual(self.most(style, FOUR, "marks"), 2)

    def test_rules_that_begin_pages(self):
        for rule, wanted in ((Rule(1, kind="B", page=True), 0), (Rule(1, kind="C", page=True), 1), (Rule(1, elder="B", page=True), 1)):
            self.assertEqual(self.most(style_of(rule), FOUR, "words"), wanted)
        self.assertEqual(self.most(style_of(Rule(1, elder="B", page=True)), FLAT, "words"), 0)
        self.assertEqual(self.most(style_of(Rule(1, mark="x", page=True)), MARKED, "words"), None)

    def test_rules_that_leave_blocks_out(self):
        self.assertEqual([self.most(style_of(Rule(1, kind="B", out=True)), FLAT, deed) for deed in DEEDS], [0, 0, 0])
        self.assertEqual(self.most(style_of(Rule(1, elder="B", out=True)), FLAT, "words"), 0)
        self.assertEqual(self.most(style_of(Rule(1, mark="x", out=True)), FOUR, "words"), 3)
        self.assertEqual([self.most(style_of(Rule(1, kind="A", out=True)), NESTED, deed) for deed in DEEDS], [0, 0, 0])

    def test_endless_ones(self):
        self.assertEqual([self.most(style_of(), FLAT, deed) for deed in DEEDS], [None, 0, None])
        self.assertEqual([self.most(style_of(), NESTED, deed) for deed in DEEDS], [None, 0, None])
        for rule in (Rule(1, mark="x", kept=True), Rule(1, mark="x", out=True), Rule(1, mark="x", page=True), Rule(1, mark="x", measure=1)):
            self.assertEqual(self.most(style_of(rule, length=3), MARKED, "marks"), None)

    def test_steps_that_no_manuscript_takes(self):
        # There is a way on to more blocks, but none to an end from there.
        grammar = Grammar("A", {
            "A": (3, [(0, "B", "", 1), (1, "B", "", 1), (1, "C", "", 2), (2, "B", "", 2), (0, "B", "x", 2)], [2, 0]),
            "B": None, "C": (1, [(0, "C", "", 0)], []),
        })
        told = self.check(style_of(), grammar, "marks")
        self.assertEqual(told.most, 0)
        self.assertEqual(self.check(style_of(), grammar, "words").most, None)
        cut = Grammar("A", {"A": (3, [(0, "B", "", 1), (0, "B", "x", 2), (2, "B", "", 2)], [1]), "B": None})
        self.assertEqual([self.most(style_of(), cut, deed) for deed in DEEDS], [0, 0, 0])

    def test_rooms_that_part(self):
        # The marks decide which room follows; from there on just one row of parts fits both.
        grammar = Grammar("A", {
            "A": (3, [(0, "B", "", 1), (0, "B", "x", 2), (1, "B", "y", 1), (2, "B", "y", 0), (2, "C", "", 2)], [1, 0]),
            "B": None, "C": (1, [], [0]),
        })
        style = style_of(Rule(1, mark="x", out=True))
        self.assertEqual(self.check(style, grammar, "marks", most=9, spent=2).most, 1)
        self.assertEqual(self.check(style, grammar, "parts", most=8, spent=2).most, None)

    def test_more_than_can_be_shown(self):
        told = reach(DEEP_STYLE, DEEP, "words")
        self.assertEqual((told.most, told.is_endless, told.tree, told.edit), (63, False, None, None))
        self.check_ranks(DEEP_STYLE, DEEP, "words", told, set())
        pairs = pair_ends(DEEP_STYLE, DEEP, "A", "", DEEP_STYLE.root_context(), TOP, OPEN)
        self.assertEqual([row[:2] for row in pairs], [((OPEN, TOP), 64), (None, 64)])
        for end, _, piece in pairs:
            sets = [Set(DEEP_STYLE, piece, DEEP_STYLE.root_context(), standing) for standing in (TOP, OPEN)]
            self.assertEqual(end is None, sets[0].behind == sets[1].behind)

    def test_as_many_as_can_be_shown(self):
        # With 60 counted blocks, or a few less, there is a manuscript to show.
        style = DEEP_STYLE.with_sheet(DEEP_STYLE.sheet.with_rule(Rule(3, parent="C", above="y", elder="B", out=True)))
        told = reach(style, DEEP, "words")
        self.assertIs(told.is_endless, False)
        self.assertTrue(20 < told.most <= 60)
        self.assertEqual(KeptBook(style, told.tree).change(told.edit).behind, told.most)

    def test_random_ones(self):
        chance = random.Random(251)
        told = {deed: [] for deed in DEEDS}
        for _ in range(120):
            style, grammar = random_style(chance, [FACE]), random_grammar(chance)
            for deed in DEEDS:
                told[deed].append(self.check(style, grammar, deed, 4, 2).most)
        for deed in ("words", "parts"):
            self.assertGreater(told[deed].count(None), 10)
            self.assertGreater(len([most for most in told[deed] if most]), 3)

    def test_two_faces(self):
        chance = random.Random(252)
        faces = [Face([DOT, HOOK]), Face([DOT, BAR]), Face([DOT, HOOK], 2)]
        for _ in range(30):
            style, grammar = random_style(chance, faces), random_grammar(chance)
            for deed in DEEDS:
                self.check(style, grammar, deed, 4, 2)

    def test_marks_with_a_greatest_number(self):
        chance = random.Random(253)
        rules = [
            Rule(2, mark="x", kept=True), Rule(2, mark="y", out=True), Rule(1, mark="x", page=True), Rule(2, mark="y", space=1), Rule(1, above="x", measure=1),
        ]
        grammars = [FOUR, Grammar("A", {
            "A": (3, [(0, "C", "", 1), (0, "C", "x", 1), (1, "B", "", 2), (1, "B", "y", 2)], [2]), "B": None,
            "C": (3, [(0, "B", "", 1), (0, "B", "y", 2), (1, "B", "x", 2), (2, "B", "", 2)], [2]),
        })]
        told = []
        for _ in range(12):
            style = style_of(*chance.sample(rules, 3), length=chance.choice([2, 3, 4]))
            told += [self.check(style, grammar, "marks", 7, 0).most for grammar in grammars]
        self.assertGreater(len([most for most in told if most]), 3)

    def test_refused(self):
        for deed in DEEDS:
            self.check_error(BadGrammar, {"kind": "A"}, reach, style_of(), NO_MANUSCRIPT, deed)


class TestRanks(ReachCase):
    def test_by_single_calls(self):
        chance = random.Random(261)
        many = 0
        for _ in range(40):
            style, grammar = random_style(chance, [FACE]), random_grammar(chance)
            for deed in DEEDS:
                told = reach(style, grammar, deed)
                if not told.is_endless:
                    rows = told.ranks()
                    many += len(rows)
                    self.check_rows_by_single_calls(style, grammar, deed, rows, 12)
        self.assertGreater(many, 500)

    def test_all_rows_of_a_few(self):
        for grammar, rules in ((FLAT, (Rule(1, kind="B", space=1),)), (FOUR, ()), (FOUR, (Rule(1, mark="x", kept=True),))):
            for deed in DEEDS:
                told = reach(style_of(*rules), grammar, deed)
                self.check_rows_by_single_calls(style_of(*rules), grammar, deed, told.ranks())

    def test_entries_beneath_what_is_left_out(self):
        style = style_of(Rule(1, mark="x", out=True))
        rows = reach(style_of(Rule(1, mark="x", out=True), Rule(1, kind="B", page=True)), NESTED, "words").ranks()
        gone = [row for row in rows if row[3][5]]
        self.assertTrue(gone)
        for row in gone:
            self.assertEqual((row[0],) + row[5:], ("edit", None, 0))
        self.assertIs(reach(style, NESTED, "words").is_endless, True)

    def test_lists_are_new(self):
        told = reach(style_of(Rule(1, kind="B", space=1)), FLAT, "words")
        rows = told.ranks()
        told.ranks().clear()
        self.assertEqual(told.ranks(), rows)


class TestLoops(ReachCase):
    def test_samples(self):
        chance = random.Random(271)
        endless = 0
        for _ in range(60):
            style, grammar = random_style(chance, [FACE]), random_grammar(chance)
            for deed in DEEDS:
                if reach(style, grammar, deed).is_endless:
                    endless += 1
                    for many in (0, 1, 4):
                        self.check_samples(style, grammar, deed, many)
        self.assertGreater(endless, 20)

    def check_samples(self, style, grammar, deed, many):
        told = list(loop_samples(style, grammar, deed, many))
        self.assertEqual(len(told), many)
        last = 0
        for tree, edit, number in told:
            self.assertEqual(self.check_edit(style, grammar, deed, tree, edit), number)
            self.assertGreater(number, last)
            last = number

    def test_twelve_samples(self):
        for deed, style, grammar in (("words", style_of(), FLAT), ("parts", style_of(length=3), NESTED), ("marks", style_of(Rule(1, mark="x", out=True)), MARKED)):
            self.check_samples(style, grammar, deed, 12)

    def test_grammars_with_many_steps(self):
        labels = [("B", ""), ("B", "x"), ("C", ""), ("C", "y"), ("A", "x"), ("A", "xy")]
        rows = {kind: (2, [(room,) + label + ((room + at) % 2,) for room in (0, 1) for at, label in enumerate(labels)], [0, 1]) for kind in "AC"}
        grammar = Grammar("A", dict(rows, B=None))
        rules = [
            Rule(1, kind="B", mark="x", kept=True), Rule(2, elder="B", space=1), Rule(1, above="y", measure=1), Rule(1, parent="C", kept=True),
        ]
        for deed in DEEDS:
            self.check_samples(style_of(*rules, length=3), grammar, deed, 12)
            # With a new page at each block nothing is felt.
            style = style_of(*rules, Rule(3, kind="B", page=True), length=3)
            told = reach(style, grammar, deed)
            self.assertEqual(told.most, 0)
            self.assertEqual(self.check_edit(style, grammar, deed, told.tree, told.edit), 0)

    def test_loops_of_pieces_in_pieces(self):
        # Each piece has just one part in front, and a block behind it.
        grammar = Grammar("A", {
            "A": (3, [(0, "A", "x", 1), (0, "B", "", 2), (1, "B", "", 2)], [2]), "B": None,
        })
        for style in (style_of(), style_of(Rule(1, kind="B", kept=True), length=3)):
            told = self.check(style, grammar, "words", 7)
            self.assertIs(told.is_endless, True)
            self.check_samples(style, grammar, "words", 12)

    def test_not_endless(self):
        told = loop_samples(style_of(Rule(1, kind="B", space=1)), FLAT, "words", 0)
        self.check_error(NotEndless, {"deed": "words"}, list, told)
        for grammar, deed in ((NO_BLOCKS, "words"), (FIXED, "parts"), (FLAT, "marks")):
            self.check_error(NotEndless, {"deed": deed}, list, loop_samples(style_of(), grammar, deed, 3))

    def test_refused_when_iterated_over(self):
        told = loop_samples(style_of(), NO_MANUSCRIPT, "words", 0)
        self.check_error(BadGrammar, {"kind": "A"}, list, told)
