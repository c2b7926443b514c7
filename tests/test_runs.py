import random

from helpers import DOT, FOOT, Case, random_grammar, random_manuscript, random_style
from plainly import gates_at

from pressalike.errors import NotOfGrammar, NotSeam
from pressalike.faces import Face
from pressalike.gates import Gates
from pressalike.grammar import Grammar
from pressalike.prints import Print
from pressalike.rules import Rule
from pressalike.runs import Job, Setting, job_between, joined, set_job
from pressalike.seams import cut
from pressalike.setter import block_settings, print_tree
from pressalike.sheets import Sheet
from pressalike.styles import Style
from pressalike.treetext import read_tree

FACE = Face([DOT])
INK = ("#...", "....", "....", "....")
TOP, OPEN = ("top", 0, 0), ("open", 1, 0)
MARKED = Grammar("A", {"A": (1, [(0, "B", "", 0), (0, "B", "x", 0)], [0]), "B": None})


def style_of(*rules, faces=(FACE,), **named):
    return Style(Sheet(rules), faces, **named)


def values(space=0, kept=False, out=False, measure=3, face=0):
    return face, measure, space, kept, False, out


class TestJobBetween(Case):
    def setUp(self):
        self.gates = Gates(style_of(Rule(1, mark="x", page=True)), MARKED)
        self.tree = read_tree("A{B[a] B[] Bx[a] B[a] Bx[] Bx[a]}")

    def test_example(self):
        grammar = Grammar("A", {"A": (1, [(0, "B", "", 0), (0, "B", "x", 0)], [0]), "B": None})
        style = Style(Sheet([Rule(1, mark="x", page=True)]), [Face([[[(0, 0), (1, 0), (1, 1), (0, 1)]]])])
        gates = Gates(style, grammar)
        tree = read_tree("A{B[a] B[] Bx[a] B[a]}")
        job = job_between(gates, tree, 2, 4)
        self.assertEqual((job.standing, job.rows[0]), (('top', 0, 0), (True, (0, 3, 0, False, True, False), ('a',))))
        self.assertEqual(set_job(style, job).blocks[1][0][:2], (False, 1))
        self.check_error(NotSeam, {"place": 3}, job_between, gates, tree, 0, 3)

    def test_between_any_two_cuts(self):
        self.assertEqual(cut(self.gates, self.tree), [(0, 2), (2, 4), (4, 5), (5, 6)])
        whole = job_between(self.gates, self.tree, 0, 6)
        self.assertEqual([row[2] for row in whole.rows], [("a",), (), ("a",), ("a",), (), ("a",)])
        self.assertEqual([(told, due) for due, told, _ in whole.rows], block_settings(self.gates.style, self.tree))
        for first in (0, 2, 4, 5):
            for stop in (0, 2, 4, 5, 6):
                if stop >= first:
                    job = job_between(self.gates, self.tree, first, stop)
                    self.assertIs(type(job), Job)
                    self.assertEqual((job.ticket, job.standing, job.rows), (None, TOP, whole.rows[first:stop]))

    def test_first_equal_to_stop(self):
        gates = Gates(style_of(Rule(1, elder="B", measure=1)), MARKED)
        for first in (0, 2, 4, 5):
            job = job_between(self.gates, self.tree, first, first)
            self.assertEqual((job.ticket, job.standing, job.rows), (None, TOP, ()))
        self.assertEqual(job_between(gates, read_tree("A{}"), 0, 0).rows, ())

    def test_the_order_of_errors(self):
        wrong = read_tree("A{B[a] By[a] C[]}")
        self.check_error(NotOfGrammar, {"path": (1,)}, job_between, self.gates, wrong, 77, -1)
        for first in (1, 3, 6, -1, 77):
            self.check_error(NotSeam, {"place": first}, job_between, self.gates, self.tree, first, 1)
        for first, stop in ((0, 1), (0, 3), (0, 7), (0, -1), (2, 0), (5, 4), (4, 3)):
            self.check_error(NotSeam, {"place": stop}, job_between, self.gates, self.tree, first, stop)
        empty = read_tree("A{}")
        self.check_error(NotSeam, {"place": 1}, job_between, self.gates, empty, 1, 1)
        self.check_error(NotSeam, {"place": 1}, job_between, self.gates, empty, 0, 1)

    def test_standings(self):
        chance = random.Random(321)
        for _ in range(60):
            style, grammar = random_style(chance, [FACE]), random_grammar(chance)
            gates = Gates(style, grammar)
            for _ in range(5):
                tree = random_manuscript(chance, grammar)
                arrivals = [arrival for path, _, arrival in gates_at(style, grammar, tree) if tree.piece_at(path).is_block]
                for first, stop in cut(gates, tree):
                    standing = job_between(gates, tree, first, stop).standing
                    self.assertEqual(standing, arrivals[first] if first < stop else TOP)
                    self.assertEqual(standing[2], 0)


class TestSetJob(Case):
    def test_jobs_of_runs_in_any_order(self):
        chance = random.Random(322)
        many = 0
        for _ in range(80):
            style, grammar = random_style(chance, [FACE, Face([FOOT])]), random_grammar(chance)
            if len(style.sheet) < 6:
                style = style.with_sheet(style.sheet.with_rule(Rule(9, mark=chance.choice("xy"), page=True)))
            gates = Gates(style, grammar)
            # A desk does not need the sheet.
            desk = style.with_sheet(Sheet([Rule(9, kept=True, space=2, page=True, face=1)]))
            for _ in range(4):
                tree = random_manuscript(chance, grammar)
                runs = cut(gates, tree)
                many += len(runs)
                done = {run: set_job(desk, job_between(gates, tree, *run)) for run in chance.sample(runs, len(runs))}
                self.assertEqual(joined(*[done[run] for run in runs]), print_tree(style, tree))
                self.check_any_cuts(gates, tree, runs, chance)
        self.assertGreater(many, 350)

    def check_any_cuts(self, gates, tree, runs, chance):
        places = [0] + sorted(chance.sample([first for first, _ in runs[1:]], len(runs) // 2)) + [runs[-1][1]]
        jobs = [job_between(gates, tree, first, stop) for first, stop in zip(places, places[1:])]
        self.assertEqual(joined(*[set_job(gates.style, job) for job in jobs]), print_tree(gates.style, tree))

    def test_jobs_made_by_hand(self):
        style = style_of(length=3)
        rows = [(False, values(1), ("a",)), (False, values(out=True), ("a", "a")), (True, values(), ()), (False, values(measure=1), ["a", "a"])]
        told = set_job(style, Job(7, OPEN, rows))
        self.assertIs(type(told), Setting)
        self.assertEqual((told.ticket, told.blocks), (7, (
            ((False, 2, ((INK, 0),)),), (), (), ((True, 0, ((INK, 0),)), (False, 1, ((INK, 0),))))))

    def test_pending_rows(self):
        style = style_of(length=2)
        # Rows that are pending behind the last block stay where they are.
        told = set_job(style, Job(None, OPEN, [(False, values(kept=True), ("a",))]))
        self.assertEqual(told.blocks, (((False, 1, ((INK, 0),)),),))
        told = set_job(style, Job(None, OPEN, [(False, values(kept=True), ("a",)), (False, values(), ("a",))]))
        self.assertEqual(told.blocks, (((True, 0, ((INK, 0),)),), ((False, 1, ((INK, 0),)),)))
        # A new page that is due leaves them there, too.
        told = set_job(style, Job(None, OPEN, [(False, values(kept=True), ("a",)), (True, values(), ("a",))]))
        self.assertEqual(told.blocks, (((False, 1, ((INK, 0),)),), ((True, 0, ((INK, 0),)),)))

    def test_a_page_due_at_what_is_left_out(self):
        told = set_job(style_of(length=3), Job(None, OPEN, [(True, values(out=True), ("a",)), (False, values(), ("a",))]))
        self.assertEqual(told.blocks, ((), ((True, 0, ((INK, 0),)),)))

    def test_faces_and_measures_are_those_of_the_values(self):
        style = style_of(faces=[FACE, Face([FOOT])], measure=1)
        told = set_job(style, Job(None, TOP, [(False, values(face=1, measure=6), ("a", "a"))]))
        self.assertEqual([len(lines) for lines in told.blocks], [2])
        told = set_job(style, Job(None, TOP, [(False, values(face=0, measure=6), ("a", "a"))]))
        self.assertEqual([len(lines) for lines in told.blocks], [1])

    def test_no_rows(self):
        told = set_job(style_of(), Job(3, TOP, ()))
        self.assertEqual((told.ticket, told.blocks), (3, ()))


class TestJoined(Case):
    def test_without_settings(self):
        self.assertEqual(joined(), Print([]))
        self.assertEqual(joined(Setting(None, []), Setting(1, ())), Print([]))

    def test_in_the_order_passed(self):
        line = (True, 0, ((INK, 0),))
        one, two = Setting(0, [(line,), ()]), Setting(1, [(line, line)])
        self.assertEqual(joined(one, two), Print([(line,), (), (line, line)]))
        self.assertEqual(joined(two, one), Print([(line, line), (line,), ()]))
        self.assertEqual(joined(one, one).blocks, ((line,), (), (line,), ()))

    def test_what_is_passed_is_copied(self):
        rows, blocks = [(False, values(), ("a",))], [()]
        job, setting = Job(0, TOP, rows), Setting(0, blocks)
        rows.clear()
        blocks.clear()
        self.assertEqual((len(job.rows), setting.blocks), (1, ((),)))
        self.assertIs(type(job.rows), tuple)
