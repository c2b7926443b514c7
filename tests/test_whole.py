"""What holds over the whole program: it looks at names only to tell them apart, and its parts agree."""

import random

from helpers import BAR, DOT, HOOK, Case, random_grammar, random_manuscript, random_style, random_words

from pressalike.contexts import Entries
from pressalike.desks import Desks
from pressalike.edits import Drop, Marks, Put, Words
from pressalike.errors import BadEdit, NotOfGrammar
from pressalike.faces import Face
from pressalike.gates import Gates
from pressalike.grammar import Grammar
from pressalike.joinedrows import summaries
from pressalike.keptbook import KeptBook
from pressalike.pieces import Block, Inner
from pressalike.ranks import ranks_hold
from pressalike.reach import reach
from pressalike.rules import Rule
from pressalike.runs import set_job
from pressalike.setter import print_tree
from pressalike.sheets import Sheet
from pressalike.styles import Style
from pressalike.tablecheck import flaw
from pressalike.verdict import compare_styles

DEEDS = ("words", "marks", "parts")
# Kinds and marks under other names.
KINDS = {"": "", "A": "C", "B": "A", "C": "B"}
MARKS = {"": "", "x": "y", "y": "x", "xy": "xy"}


def rows_of(grammar):
    """The rows that a grammar is made of."""
    rows = {}
    for kind in grammar.kinds:
        rooms = range(grammar.rooms(kind))
        steps = [(room,) + step for room in rooms for step in grammar.steps(kind, room)]
        rows[kind] = None if grammar.has_blocks(kind) else (len(rooms), steps, [room for room in rooms if grammar.is_final(kind, room)])
    return rows


def other_grammar(grammar):
    rows = {}
    for kind, row in rows_of(grammar).items():
        if row is not None:
            row = (row[0], [(room, KINDS[part], MARKS[marks], target) for room, part, marks, target in row[1]], row[2])
        rows[KINDS[kind]] = row
    return Grammar(KINDS[grammar.root], rows)


def other_rule(rule):
    kind, mark, parent, above, elder = rule.pattern
    return Rule.made(rule.weight, (KINDS[kind], MARKS[mark], KINDS[parent], MARKS[above], KINDS[elder]), rule.settings)


def other_style(style):
    return style.with_sheet(Sheet([other_rule(rule) for rule in style.sheet]))


def other_context(context):
    return (KINDS[context[0]], MARKS[context[1]], KINDS[context[2]]) + context[3:]


def other_tree(piece):
    if piece.is_block:
        return Block(KINDS[piece.kind], MARKS[piece.marks], piece.words)
    return Inner(KINDS[piece.kind], MARKS[piece.marks], [other_tree(part) for part in piece.parts])


class TestOtherNames(Case):
    def test_kinds_and_marks(self):
        chance = random.Random(401)
        for _ in range(40):
            grammar, style = random_grammar(chance), random_style(chance)
            two = style.with_sheet(Sheet(list(style.sheet)[1:]))
            grammar_other, style_other, two_other = other_grammar(grammar), other_style(style), other_style(two)
            self.check_entries(grammar, style, grammar_other, style_other)
            self.check_gates(Gates(style, grammar), Gates(style_other, grammar_other))
            for deed in DEEDS:
                self.check_reach(reach(style, grammar, deed), reach(style_other, grammar_other, deed))
            self.check_verdict(compare_styles(style, two, grammar), compare_styles(style_other, two_other, grammar_other))
            tree = random_manuscript(chance, grammar)
            self.assertEqual(print_tree(style, tree), print_tree(style_other, other_tree(tree)))

    def check_entries(self, grammar, style, grammar_other, style_other):
        told = [(KINDS[kind], MARKS[marks], other_context(context)) for kind, marks, context in Entries(grammar, style)]
        self.assertEqual(sorted(told), list(Entries(grammar_other, style_other)))

    def check_gates(self, gates, others):
        self.assertEqual(len(gates), len(others))
        for gate in gates:
            other = (gate[0], KINDS[gate[1]], MARKS[gate[2]], other_context(gate[3]))
            self.assertEqual(gates.arrivals(gate), others.arrivals(other))
            for standing in gates.arrivals(gate):
                self.assertEqual(gates.shown(gate, standing)[0].cost, others.shown(other, standing)[0].cost)

    def check_reach(self, told, other):
        self.assertEqual(told.most, other.most)
        if not told.is_endless:
            rows = [row[:1] + (KINDS[row[1]], MARKS[row[2]], other_context(row[3])) + row[4:] for row in told.ranks()]
            self.assertEqual(sorted(rows, key=repr), sorted(other.ranks(), key=repr))

    def check_verdict(self, told, other):
        self.assertIs(told.is_alike, other.is_alike)
        if not told.is_alike:
            self.assertEqual(told.manuscript.cost, other.manuscript.cost)
        rows = [(KINDS[row[0]], MARKS[row[1]], other_context(row[2]), other_context(row[3])) + row[4:] for row in told.table()]
        self.assertEqual(sorted(rows, key=repr), sorted(other.table(), key=repr))

    def test_letters(self):
        chance = random.Random(402)
        outlines = [DOT, HOOK, BAR]
        for _ in range(15):
            grammar = random_grammar(chance)
            style = random_style(chance, [Face(outlines), Face(outlines, 2)])
            other = Style(style.sheet, [Face(outlines[::-1], face.apart) for face in style.faces], length=style.length, measure=style.measure)
            self.assertEqual(list(Gates(style, grammar)), list(Gates(other, grammar)))
            for deed in DEEDS:
                one, two = reach(style, grammar, deed), reach(other, grammar, deed)
                self.assertEqual(one.most, two.most)
                if not one.is_endless:
                    self.assertEqual(one.ranks(), two.ranks())
            less, more = [told.with_sheet(Sheet(list(style.sheet)[1:])) for told in (style, other)]
            told, others = compare_styles(style, less, grammar), compare_styles(other, more, grammar)
            self.assertEqual((told.is_alike, told.table()), (others.is_alike, others.table()))
            if not told.is_alike:
                self.assertEqual(told.manuscript.cost, others.manuscript.cost)


class TestWiderGrammars(Case):
    def wider(self, chance, grammar):
        """The grammar with more steps and finals."""
        rows = rows_of(grammar)
        for kind, row in rows.items():
            if row is not None:
                steps = {step[:3]: step[3] for step in row[1]}
                for _ in range(chance.randrange(3)):
                    steps.setdefault((chance.randrange(row[0]), chance.choice(grammar.kinds), chance.choice(["", "x", "y", "xy"])), chance.randrange(row[0]))
                rows[kind] = (row[0], [step + (target,) for step, target in steps.items()], list(row[2]) + [chance.randrange(row[0])])
        return Grammar(grammar.root, rows)

    def test_gates_entries_and_reach(self):
        chance = random.Random(403)
        for _ in range(40):
            grammar, style = random_grammar(chance), random_style(chance)
            wider = self.wider(chance, grammar)
            self.assertLessEqual(set(Entries(grammar, style)), set(Entries(wider, style)))
            gates, more = Gates(style, grammar), Gates(style, wider)
            for gate in gates:
                self.assertLessEqual(set(gates.arrivals(gate)), set(more.arrivals(gate)))
            for deed in DEEDS:
                one, two = reach(style, grammar, deed), reach(style, wider, deed)
                self.assertTrue(two.is_endless or (not one.is_endless and one.most <= two.most))
                if not two.is_endless:
                    self.check_ranks(one.ranks(), two.ranks())

    def check_ranks(self, rows, wider):
        numbers = {row[:6]: row[6] for row in wider}
        for row in rows:
            self.assertLessEqual(row[6], numbers[row[:6]])

    def test_verdicts(self):
        chance = random.Random(404)
        for _ in range(40):
            grammar, style = random_grammar(chance), random_style(chance)
            two = style.with_sheet(Sheet(list(style.sheet)[1:]))
            wider = self.wider(chance, grammar)
            told, other = compare_styles(style, two, grammar), compare_styles(style, two, wider)
            if other.is_alike:
                self.assertIs(told.is_alike, True)
                self.assertIsNone(flaw(style, two, wider, other.table()))
            elif not told.is_alike:
                self.assertLessEqual(other.manuscript.cost, told.manuscript.cost)


class TestBooksAndOffices(Case):
    def test_the_same_edits(self):
        chance = random.Random(405)
        kept = 0
        for _ in range(40):
            grammar, style = random_grammar(chance), random_style(chance)
            if len(style.sheet) < 6:
                style = style.with_sheet(style.sheet.with_rule(Rule(9, mark="x", page=True)))
            gates, tree = Gates(style, grammar), random_manuscript(chance, grammar)
            desks, book = Desks(gates, tree), KeptBook(style, tree)
            for _ in range(10):
                edit = self.random_edit(chance, grammar, desks.tree)
                try:
                    new = desks.revise(edit)
                except (BadEdit, NotOfGrammar):
                    continue
                kept += len(desks.runs()) - len(new)
                book.change(edit)
                desks.deliver(*[set_job(style, desks.job(ticket)) for ticket in desks.missing()])
                self.assertEqual((desks.tree, desks.printed()), (book.tree, book.printed()))
                self.assertEqual(desks.printed(), print_tree(style, desks.tree))
        self.assertGreater(kept, 30)

    def random_edit(self, chance, grammar, tree):
        path, piece = chance.choice(list(tree.each_piece()))
        kind = chance.choice("wwmpd")
        if kind == "w":
            return Words(path, random_words(chance, "a"))
        if kind == "m":
            return Marks(path, chance.choice(["", "x", "y"]))
        if kind == "d" or piece.is_block:
            return Drop(path)
        parts = [part for _, part in random_manuscript(chance, grammar).each_piece()]
        return Put(path + (chance.randrange(len(piece) + 1),), chance.choice(parts))

    def test_no_edit_of_a_book_reaches_further(self):
        chance = random.Random(406)
        felt = 0
        for _ in range(150):
            grammar, style = random_grammar(chance), random_style(chance)
            most = {deed: reach(style, grammar, deed).most for deed in DEEDS}
            book = KeptBook(style, random_manuscript(chance, grammar))
            for _ in range(15):
                edit = self.random_edit(chance, grammar, book.tree)
                try:
                    fits = grammar.fits(edit.apply(book.tree))
                except BadEdit:
                    continue
                if fits:
                    behind = book.change(edit).behind
                    felt += behind
                    if most[edit.DEED] is not None:
                        self.assertLessEqual(behind, most[edit.DEED])
        self.assertGreater(felt, 50)


class TestNothingIsChanged(Case):
    def test_what_is_passed(self):
        chance = random.Random(407)
        for _ in range(10):
            grammar, style = random_grammar(chance), random_style(chance)
            two = style.with_sheet(Sheet(list(style.sheet)[1:]))
            copies = Grammar(grammar.root, rows_of(grammar)), Style(Sheet(list(style.sheet)), style.faces, length=style.length, measure=style.measure)
            gates = Gates(style, grammar)
            rows = compare_styles(style, style, grammar).table()
            flaw(style, two, grammar, rows)
            for deed in DEEDS:
                told = reach(style, grammar, deed)
                if not told.is_endless:
                    table = told.ranks()
                    before = list(table)
                    self.assertIs(ranks_hold(style, grammar, deed, table), True)
                    self.assertEqual(table, before)
            summaries(style, two, grammar)
            self.assertEqual((gates.grammar, gates.style), copies)
            self.assertEqual(rows, compare_styles(style, style, grammar).table())

    def test_equal_to_nothing_of_another_class(self):
        grammar, style = random_grammar(random.Random(408)), random_style(random.Random(408))
        gates = Gates(style, grammar)
        things = [gates, Desks(gates, random_manuscript(random.Random(409), grammar)), compare_styles(style, style, grammar), reach(style, grammar, "marks")]
        for one in things:
            for two in things + [None, 0, "", (), [], {}]:
                self.assertIs(one == two, one is two)
