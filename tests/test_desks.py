import random

from helpers import DOT, Case, random_grammar, random_manuscript, random_style, random_words

from pressalike.desks import Desks
from pressalike.edits import Drop, Marks, Put, Words
from pressalike.errors import BadEdit, BadRun, NotOfGrammar
from pressalike.faces import Face
from pressalike.gates import Gates
from pressalike.grammar import Grammar
from pressalike.keptbook import KeptBook
from pressalike.pieces import Block
from pressalike.prints import Print
from pressalike.rules import Rule
from pressalike.runs import Job, Setting, job_between, set_job
from pressalike.seams import cut
from pressalike.setter import print_tree
from pressalike.sheets import Sheet
from pressalike.styles import Style
from pressalike.treetext import read_tree, write_tree

FACE = Face([DOT])
MARKED = Grammar("A", {"A": (1, [(0, "B", "", 0), (0, "B", "x", 0), (0, "B", "y", 0)], [0]), "B": None})


def style_of(*rules, **named):
    return Style(Sheet(rules), [FACE], **named)


class DesksCase(Case):
    def setUp(self):
        self.style = style_of(Rule(1, mark="x", page=True))
        self.gates = Gates(self.style, MARKED)
        self.tree = read_tree("A{B[a] B[] Bx[a] B[a] Bx[] Bx[a]}")
        self.desks = Desks(self.gates, self.tree)

    def set_all(self, desks, style):
        desks.deliver(*[set_job(style, desks.job(ticket)) for ticket in desks.missing()])

    def state(self, desks):
        return desks.runs(), desks.missing(), desks.tree, desks.printed(), [vars(desks.job(row[0])) for row in desks.runs()]


class TestDesks(DesksCase):
    def test_examples(self):
        grammar = Grammar("A", {"A": (1, [(0, "B", "", 0), (0, "B", "x", 0)], [0]), "B": None})
        style = Style(Sheet([Rule(1, mark="x", page=True)]), [Face([[[(0, 0), (1, 0), (1, 1), (0, 1)]]])])
        gates = Gates(style, grammar)
        tree = read_tree("A{B[a] B[] Bx[a] B[a]}")
        desks = Desks(gates, tree)
        self.assertEqual(desks.runs(), [(0, 0, 2), (1, 2, 4)])
        early = [set_job(style, desks.job(1)), set_job(style, desks.job(0))]
        self.assertEqual(desks.revise(Words((3,), ["a", "a"])), [2])
        self.assertEqual((desks.deliver(*early), desks.missing(), desks.printed()), ([0], [2], None))
        self.assertEqual(desks.deliver(set_job(style, desks.job(2))), [2])
        self.assertIs(desks.printed() == print_tree(style, desks.tree), True)

    def test_tickets_and_jobs(self):
        self.assertEqual(self.desks.runs(), [(0, 0, 2), (1, 2, 4), (2, 4, 5), (3, 5, 6)])
        self.assertEqual(self.desks.tree, self.tree)
        self.assertEqual((self.desks.missing(), self.desks.printed()), ([0, 1, 2, 3], None))
        for ticket, first, stop in self.desks.runs():
            job = self.desks.job(ticket)
            self.assertIs(type(job), Job)
            told = job_between(self.gates, self.tree, first, stop)
            self.assertEqual((job.ticket, job.standing, job.rows), (ticket, told.standing, told.rows))

    def test_unknown_tickets(self):
        for ticket in (4, -1, 77, None, True, False, "0"):
            self.check_error(BadRun, {"number": ticket}, self.desks.job, ticket)

    def test_settings_in_any_order(self):
        settings = [set_job(self.style, self.desks.job(ticket)) for ticket in (3, 0, 2, 1)]
        self.assertEqual(self.desks.deliver(settings[0]), [3])
        self.assertEqual((self.desks.missing(), self.desks.printed()), ([0, 1, 2], None))
        self.assertEqual(self.desks.deliver(*settings[1:]), [0, 2, 1])
        self.assertEqual(self.desks.missing(), [])
        self.assertEqual(self.desks.printed(), print_tree(self.style, self.tree))
        self.assertEqual(self.desks.deliver(), [])

    def test_late_settings(self):
        late = Setting(9, [(), ()]), Setting(None, []), Setting(-1, [()]), Setting(True, [(), ()])
        self.assertEqual(self.desks.deliver(*late), [])
        self.assertEqual(self.desks.missing(), [0, 1, 2, 3])
        # Late ones may have any number of blocks.
        good = set_job(self.style, self.desks.job(2))
        self.assertEqual(self.desks.deliver(late[0], good, late[1]), [2])

    def test_the_last_setting_counts(self):
        self.set_all(self.desks, self.style)
        line = (True, 0, ())
        self.assertEqual(self.desks.deliver(Setting(2, [(line,)]), Setting(3, [()]), Setting(2, [(line, line)])), [2, 3, 2])
        # Whether a setting is what a desk makes of the job is not checked.
        self.assertEqual(self.desks.printed().blocks[4:], ((line, line), ()))
        self.assertEqual(self.desks.deliver(Setting(2, [()])), [2])
        self.assertEqual(self.desks.printed().blocks[4:], ((), ()))

    def test_a_wrong_number_of_blocks(self):
        for wrong in (Setting(1, [()]), Setting(1, []), Setting(1, [(), (), ()])):
            before = self.state(self.desks)
            told = [set_job(self.style, self.desks.job(0)), Setting(99, []), wrong, Setting(2, [])]
            self.check_error(BadRun, {"number": 1}, self.desks.deliver, *told)
            self.assertEqual(self.state(self.desks), before)

    def test_without_blocks(self):
        desks = Desks(self.gates, read_tree("A{}"))
        self.assertEqual((desks.runs(), desks.missing(), desks.printed()), ([(0, 0, 0)], [0], None))
        self.assertEqual(desks.deliver(set_job(self.style, desks.job(0))), [0])
        self.assertEqual(desks.printed(), Print([]))
        self.assertEqual(desks.revise(Put((0,), Block("B", "x", ["a"]))), [1])
        self.assertEqual((desks.runs(), desks.missing()), ([(1, 0, 1)], [1]))
        self.assertEqual(desks.revise(Drop((0,))), [2])
        self.assertEqual(desks.revise(Marks((), "")), [])

    def test_refused(self):
        self.check_error(NotOfGrammar, {"path": (1,)}, Desks, self.gates, read_tree("A{B[] Bxy[] C[]}"))

    def test_lists_are_new(self):
        self.desks.runs().clear()
        self.desks.missing().clear()
        self.assertEqual((len(self.desks.runs()), len(self.desks.missing())), (4, 4))


class TestRevise(DesksCase):
    def check(self, edit, runs, new, missing=None):
        """Revise when all is set; the runs that are kept still have their settings."""
        self.set_all(self.desks, self.style)
        self.assertEqual(self.desks.revise(edit), new)
        self.assertEqual((self.desks.runs(), self.desks.missing()), (runs, new))
        self.set_all(self.desks, self.style)
        self.assertEqual(self.desks.printed(), print_tree(self.style, self.desks.tree))

    def test_words(self):
        for at, run in enumerate((0, 0, 1, 1, 2, 3)):
            desks = Desks(self.gates, self.tree)
            self.set_all(desks, self.style)
            self.assertEqual(desks.revise(Words((at,), ["a", "a", "a", "a"])), [4])
            self.assertEqual([row[0] for row in desks.runs()], [4 if ticket == run else ticket for ticket in range(4)])
            self.assertEqual((desks.missing(), desks.printed()), ([4], None))

    def test_words_that_are_the_same(self):
        self.check(Words((0,), ["a"]), [(4, 0, 2), (1, 2, 4), (2, 4, 5), (3, 5, 6)], [4])
        self.check(Words((0,), ["a"]), [(5, 0, 2), (1, 2, 4), (2, 4, 5), (3, 5, 6)], [5])

    def test_put_and_drop(self):
        # The piece put in makes a run of its own; the run behind it begins with its sibling.
        self.check(Put((4,), Block("B", "x", ["a"])), [(0, 0, 2), (1, 2, 4), (4, 4, 5), (5, 5, 6), (3, 6, 7)], [4, 5])
        self.check(Drop((4,)), [(0, 0, 2), (1, 2, 4), (6, 4, 5), (3, 5, 6)], [6])

    def test_put_at_the_ends(self):
        self.check(Put((6,), Block("B", "x")), [(0, 0, 2), (1, 2, 4), (2, 4, 5), (3, 5, 6), (4, 6, 7)], [4])
        self.check(Put((0,), Block("B", "x")), [(5, 0, 3), (1, 3, 5), (2, 5, 6), (3, 6, 7), (4, 7, 8)], [5])

    def test_drop_of_the_last_block(self):
        self.check(Drop((5,)), [(0, 0, 2), (1, 2, 4), (2, 4, 5)], [])
        self.check(Drop((0,)), [(4, 0, 1), (1, 1, 3), (2, 3, 4)], [4])

    def test_marks(self):
        self.check(Marks((1,), "x"), [(4, 0, 1), (5, 1, 2), (1, 2, 4), (2, 4, 5), (3, 5, 6)], [4, 5])
        self.check(Marks((1,), "y"), [(6, 0, 2), (1, 2, 4), (2, 4, 5), (3, 5, 6)], [6])
        self.check(Marks((2,), "y"), [(7, 0, 4), (2, 4, 5), (3, 5, 6)], [7])
        # Not even marks that are the same leave the own part its ticket.
        self.check(Marks((4,), "x"), [(7, 0, 4), (8, 4, 5), (3, 5, 6)], [8])

    def test_runs_whose_standing_changes(self):
        # A run can begin with another standing if its first block is not the piece with the seam.
        grammar = Grammar("A", {"A": (2, [(0, "C", "", 1), (0, "C", "x", 1), (1, "B", "", 1)], [0, 1]), "B": None, "C": (1, [], [0])})
        style = style_of(Rule(1, mark="x", page=True), Rule(1, elder="B", page=True))
        desks = Desks(Gates(style, grammar), read_tree("A{C{} B[a] B[a]}"))
        self.set_all(desks, style)
        self.assertEqual(desks.revise(Marks((0,), "x")), [2])
        self.assertEqual(desks.runs(), [(2, 0, 1), (1, 1, 2)])

    def test_tickets_are_never_given_twice(self):
        self.check(Drop((5,)), [(0, 0, 2), (1, 2, 4), (2, 4, 5)], [])
        self.check(Put((5,), Block("B", "x", ["a"])), [(0, 0, 2), (1, 2, 4), (2, 4, 5), (4, 5, 6)], [4])

    def test_early_settings(self):
        early = [set_job(self.style, self.desks.job(ticket)) for ticket in range(4)]
        self.assertEqual(self.desks.revise(Drop((2,))), [4])
        self.assertEqual(self.desks.runs(), [(4, 0, 3), (2, 3, 4), (3, 4, 5)])
        self.assertEqual(self.desks.deliver(*early), [2, 3])
        self.assertEqual((self.desks.missing(), self.desks.printed()), ([4], None))

    def test_what_raises_changes_nothing(self):
        self.set_all(self.desks, self.style)
        before = self.state(self.desks)
        for edit in (Words((), []), Words((9,), []), Drop(()), Drop((6,)), Put((7,), Block("B", "")), Marks((0, 0), "")):
            self.check_error(BadEdit, {"path": edit.path}, self.desks.revise, edit)
            self.assertEqual(self.state(self.desks), before)
        for edit, path in ((Marks((), "x"), ()), (Marks((3,), "xy"), (3,)), (Put((2,), Block("C", "")), (2,)), (Put((1,), Block("B", "xy")), (1,))):
            self.check_error(NotOfGrammar, {"path": path}, self.desks.revise, edit)
            self.assertEqual(self.state(self.desks), before)
        self.assertEqual(self.desks.revise(Words((3,), [])), [4])

    def test_two_offices_of_the_same_gates(self):
        other = Desks(self.gates, self.tree)
        self.set_all(self.desks, self.style)
        self.desks.revise(Words((0,), []))
        self.assertEqual((other.missing(), other.runs()[0], other.tree), ([0, 1, 2, 3], (0, 0, 2), self.tree))
        other.revise(Drop((0,)))
        self.assertEqual([row[0] for row in other.runs()], [4, 1, 2, 3])
        self.assertEqual([row[0] for row in self.desks.runs()], [4, 1, 2, 3])
        self.assertEqual(write_tree(self.desks.tree), "A{B[] B[] Bx[a] B[a] Bx[] Bx[a]}")


class TestRandom(DesksCase):
    def random_edit(self, chance, grammar, tree):
        path, piece = chance.choice(list(tree.each_piece()))
        kind = chance.choice("wwmpd")
        if kind == "w":
            return Words(path, random_words(chance, "a"))
        if kind == "m":
            return Marks(path, chance.choice(["", "x", "y"]))
        if kind == "d" or piece.is_block:
            return Drop(path)
        inner = random_manuscript(chance, grammar)
        parts = [part for _, part in inner.each_piece()]
        return Put(path + (chance.randrange(len(piece) + 1),), chance.choice(parts))

    def test_against_kept_books(self):
        chance = random.Random(331)
        told = {"words": 0, "marks": 0, "parts": 0, "kept": 0}
        for _ in range(70):
            style, grammar = random_style(chance, [FACE]), random_grammar(chance)
            if len(style.sheet) < 6:
                style = style.with_sheet(style.sheet.with_rule(Rule(9, mark=chance.choice("xy"), page=True)))
            tree = random_manuscript(chance, grammar)
            desks, book = Desks(Gates(style, grammar), tree), KeptBook(style, tree)
            self.given = [ticket for ticket, _, _ in desks.runs()]
            for _ in range(12):
                self.step(chance, desks, book, told)
            self.set_all(desks, style)
            self.assertEqual(desks.printed(), book.printed())
        for name in told:
            self.assertGreater(told[name], 20)

    def step(self, chance, desks, book, told):
        gates = desks._gates
        for ticket in desks.missing():
            if chance.random() < 0.7:
                self.assertEqual(desks.deliver(set_job(book.style, desks.job(ticket))), [ticket])
        edit = self.random_edit(chance, gates.grammar, desks.tree)
        old, tree = desks.runs(), desks.tree
        settled = {row[0] for row in old} - set(desks.missing())
        try:
            new = desks.revise(edit)
        except (BadEdit, NotOfGrammar):
            self.assertEqual((desks.runs(), desks.tree), (old, tree))
            return
        book.change(edit)
        self.assertEqual(desks.tree, book.tree)
        self.assertEqual([row[1:] for row in desks.runs()], cut(gates, book.tree))
        told[edit.DEED] += 1
        if edit.DEED == "words":
            self.assertEqual(len(new), 1)
        self.assertEqual(desks.runs(), self.plain_tickets(gates, tree, edit, old, max(self.given) + 1))
        self.given += new
        self.assertEqual([row[0] for row in desks.runs() if row[0] in new], new)
        self.assertEqual(desks.missing(), [row[0] for row in desks.runs() if row[0] not in settled])
        told["kept"] += len(desks.runs()) - len(new)

    def plain_tickets(self, gates, tree, edit, old, fresh):
        """The runs of the new manuscript with their tickets, by [10.9]."""
        after = edit.apply(tree)
        first, stop = edit.own(tree)
        shift = len(list(after.each_block())) - len(list(tree.each_block()))
        tickets = {row[1:]: row[0] for row in old}
        told = []
        for run in cut(gates, after):
            former = [run] if run[1] <= first else []
            former += [(run[0] - shift, run[1] - shift)] if run[0] >= stop else []
            job = job_between(gates, after, *run)
            kept = [
                tickets[at] for at in former if at in tickets
                and [job.standing, job.rows] == [getattr(job_between(gates, tree, *at), name) for name in ("standing", "rows")]
            ]
            told.append(((kept or [fresh])[0],) + run)
            fresh += not kept
        return told
