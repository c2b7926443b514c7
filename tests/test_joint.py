import itertools
import random

from helpers import BAR, DOT, HOOK, Case, random_piece, random_style
from plainly import TwoBooks, joint_walk

from pressalike.faces import Face
from pressalike.joint import alike_at_end, joint_begin, joint_block, joint_page
from pressalike.pieces import Inner
from pressalike.rules import Rule
from pressalike.setter import print_tree
from pressalike.sheets import Sheet
from pressalike.standings import standings
from pressalike.styles import Style

TOP = ("top", 0, 0)
BEGIN = (TOP, (), TOP, (), ())
LENGTHS = list(itertools.product((2, 3, 4), repeat=2))


def values(space=0, kept=False, page=False, out=False, face=0, measure=1):
    return face, measure, space, kept, page, out


def some_values(chance, like=None):
    """Random values; often those of `like`, if it is given."""
    if like is not None and chance.random() < 0.6:
        return like
    return values(chance.randrange(3), chance.random() < 0.5, chance.random() < 0.08, chance.random() < 0.08)


def behind(lengths, *blocks):
    joint = joint_begin()
    for block in blocks:
        joint = joint_block(lengths, joint, *block)
    return joint


class TestExamples(Case):
    def test_examples(self):
        told = joint_block((2, 3), joint_begin(), 2, (0, 1, 0, False, False, False), (0, 1, 0, False, False, False))
        self.assertEqual(told, (('top', 0, 0), (), ('open', 2, 0), (), ()))
        told = joint_block((2, 3), joint_begin(), 3, (0, 1, 0, False, False, False), (0, 1, 0, False, False, False))
        self.assertEqual(told, 'parted')

    def test_begin(self):
        self.assertEqual(joint_begin(), BEGIN)


class TestBlocks(Case):
    def check(self, lengths, joint, books):
        self.assertEqual(joint, books.joint())
        self.assertIs(alike_at_end(joint), books.is_alike_at_end())
        if joint != "parted":
            one, offsets_one, two, offsets_two, settled = joint
            self.assertIn(one, standings(lengths[0]))
            self.assertIn(two, standings(lengths[1]))
            self.assertEqual(len(settled), abs(len(offsets_one) - len(offsets_two)))
            for standing, offsets in ((one, offsets_one), (two, offsets_two)):
                self.assertEqual(standing[2], offsets[-1] + 1 if offsets else 0)
                self.assertEqual(list(offsets), sorted(set(offsets)))
                self.assertIn(offsets[:1], ((), (0,)))

    def test_against_plain_books(self):
        chance = random.Random(111)
        unlike = 0
        for lengths in LENGTHS:
            for _ in range(400):
                joint, books = joint_begin(), TwoBooks(lengths)
                for _ in range(12):
                    if chance.random() < 0.1:
                        due = (chance.random() < 0.6, chance.random() < 0.6)
                        joint = joint_page(joint, *due)
                        books.page(*due)
                    else:
                        count, first = chance.choice([0, 1, 1, 1, 2, 2, 3, 4]), some_values(chance)
                        second = some_values(chance, first)
                        joint = joint_block(lengths, joint, count, first, second)
                        books.block(count, first, second)
                    self.check(lengths, joint, books)
                    unlike += joint != "parted" and bool(joint[4])
        self.assertGreater(unlike, 100)

    def test_all_short_rows_of_kept_blocks(self):
        blocks = [(1, values(space, one), values(space, two)) for space in (0, 1) for one in (False, True) for two in (False, True)]
        for lengths in ((3, 3), (3, 4), (4, 4)):
            for row in itertools.product(blocks, repeat=4):
                joint, books = joint_begin(), TwoBooks(lengths)
                for block in row:
                    joint = joint_block(lengths, joint, *block)
                    books.block(*block)
                    self.check(lengths, joint, books)

    def test_offsets_and_settled(self):
        kept, free = values(kept=True), values()
        told = behind((4, 4), (1, free, free), (1, kept, free))
        self.assertEqual(told, (("kept", 2, 1), (0,), ("open", 2, 0), (), ((False, 1),)))
        told = behind((4, 4), (1, free, free), (1, kept, free), (1, kept, free))
        self.assertEqual(told, (("kept", 3, 2), (0, 1), ("open", 3, 0), (), ((False, 1), (False, 2))))
        told = behind((4, 4), (1, free, free), (1, kept, kept), (1, values(2, True), values(2, True)))
        self.assertEqual(told, BEGIN)
        told = behind((4, 4), (1, free, free), (1, kept, kept), (1, values(1, True), values(1, True)))
        self.assertEqual(told, (("kept", 4, 3), (0, 2), ("kept", 4, 3), (0, 2), ()))

    def test_settled_lines_that_come_out_unlike(self):
        kept, free = values(kept=True), values()
        # The pending line goes over in style one; in style two it has stayed.
        told = behind((2, 2), (1, free, free), (1, kept, free))
        self.assertEqual(told, (("kept", 2, 1), (0,), TOP, (), ((False, 1),)))
        self.assertIs(alike_at_end(told), True)
        self.assertEqual(joint_block((2, 2), told, 1, free, free), "parted")
        self.assertEqual(joint_page(told, True, False), (TOP, (), TOP, (), ()))

    def test_counts_up_to_200(self):
        for lengths in LENGTHS:
            for count in list(range(14)) + [50, 199, 200]:
                for told in (values(), values(1, True), values(kept=True, page=True)):
                    books = TwoBooks(lengths)
                    books.block(1, values(kept=True), values())
                    books.block(count, told, told)
                    joint = behind(lengths, (1, values(kept=True), values()), (count, told, told))
                    self.assertEqual(joint, books.joint())

    def test_left_out_in_both(self):
        out = values(2, True, True, True)
        for joint in (BEGIN, behind((3, 3), (1, values(), values())), "parted"):
            for count in (0, 1, 2, 200):
                self.assertEqual(joint_block((3, 3), joint, count, out, out), joint)
                self.assertEqual(joint_block((3, 3), joint, count, out, values(out=True)), joint)

    def test_left_out_in_one(self):
        out, page = values(page=True, out=True), values(page=True)
        joint = behind((3, 3), (1, values(), values()))
        self.assertEqual(joint, (("open", 1, 0), (), ("open", 1, 0), (), ()))
        for first, second in ((out, values()), (values(), out)):
            self.assertEqual(joint_block((3, 3), joint, 0, first, second), joint)
            for count in (1, 2, 200):
                self.assertEqual(joint_block((3, 3), joint, count, first, second), "parted")
        self.assertEqual(joint_block((3, 3), joint, 0, out, page), (("open", 1, 0), (), TOP, (), ()))
        self.assertEqual(joint_block((3, 3), joint, 0, page, out), (TOP, (), ("open", 1, 0), (), ()))

    def test_no_lines(self):
        joint = behind((3, 4), (1, values(kept=True), values(kept=True)))
        self.assertEqual(joint_block((3, 4), joint, 0, values(1), values(2, True)), joint)
        self.assertEqual(joint_block((3, 4), joint, 0, values(page=True), values(page=True)), BEGIN)

    def test_what_is_parted_stays_parted(self):
        for count in (0, 1, 200):
            for first, second in itertools.product((values(), values(page=True), values(out=True)), repeat=2):
                self.assertEqual(joint_block((2, 3), "parted", count, first, second), "parted")
        for first, second in itertools.product((False, True), repeat=2):
            self.assertEqual(joint_page("parted", first, second), "parted")
        self.assertIs(alike_at_end("parted"), False)


class TestPages(Case):
    def test_none(self):
        for joint in (BEGIN, behind((3, 3), (1, values(kept=True), values()))):
            self.assertEqual(joint_page(joint, False, False), joint)

    def test_in_one_and_in_both(self):
        joint = behind((3, 3), (1, values(), values()))
        self.assertEqual(joint_page(joint, True, False), (TOP, (), ("open", 1, 0), (), ()))
        self.assertEqual(joint_page(joint, False, True), (("open", 1, 0), (), TOP, (), ()))
        self.assertEqual(joint_page(joint, True, True), BEGIN)
        self.assertEqual(joint_page(BEGIN, True, True), BEGIN)

    def test_pending_lines_stay(self):
        kept = values(kept=True)
        joint = behind((3, 3), (1, values(), values()), (1, kept, kept))
        self.assertEqual(joint, (("kept", 2, 1), (0,), ("kept", 2, 1), (0,), ()))
        self.assertEqual(joint_page(joint, True, False), (TOP, (), ("kept", 2, 1), (0,), ((False, 1),)))
        self.assertEqual(joint_page(joint, False, True), (("kept", 2, 1), (0,), TOP, (), ((False, 1),)))
        self.assertEqual(joint_page(joint, True, True), BEGIN)

    def test_a_new_page_in_one_style(self):
        joint = joint_page(behind((3, 3), (1, values(), values())), True, False)
        self.assertEqual(joint_block((3, 3), joint, 1, values(), values()), "parted")
        # A line that begins a page anyway: in style two the page is full.
        joint = joint_page(behind((3, 3), (3, values(), values())), True, False)
        self.assertEqual(joint, BEGIN)

    def test_a_new_page_can_part(self):
        # Behind these blocks a line has row 3 in style one; in style two it is pending in row 2.
        free, kept = values(), values(kept=True)
        joint = behind((4, 4), (1, free, free), (1, values(2), values(1, True)))
        self.assertEqual(joint, (TOP, (), ("kept", 3, 1), (0,), ((False, 3),)))
        self.assertIs(alike_at_end(joint), False)
        self.assertEqual(joint_page(joint, True, False), joint)
        self.assertEqual(joint_page(joint, False, True), "parted")
        self.assertEqual(joint_block((4, 4), joint, 0, kept, values(page=True)), "parted")


class TestEnd(Case):
    def test_begin(self):
        self.assertIs(alike_at_end(BEGIN), True)

    def test_pending_in_both(self):
        kept = values(kept=True)
        joint = behind((3, 4), (1, values(), values()), (1, kept, kept))
        self.assertIs(alike_at_end(joint), True)
        joint = behind((4, 4), (1, values(), values()), (1, kept, values(1, True)))
        self.assertIs(alike_at_end(joint), False)

    def test_against_prints(self):
        chance = random.Random(112)
        faces = [Face([DOT, HOOK]), Face([DOT, HOOK], 2), Face([DOT, BAR])]
        told = []
        for _ in range(1500):
            one = random_style(chance, faces[:chance.randrange(1, 4)])
            two = one if chance.random() < 0.3 else random_style(chance, faces[:chance.randrange(1, 4)])
            if chance.random() < 0.7:
                two = Style(two.sheet, one.faces, length=one.length, measure=one.measure)
                rules = list(one.sheet)
                if rules and chance.random() < 0.7:
                    rules[chance.randrange(len(rules))] = Rule(chance.randrange(4), kind="B", kept=True)
                    two = two.with_sheet(Sheet(rules))
            tree = Inner("A", "", [random_piece(chance, 3, "ab") for _ in range(chance.randrange(1, 5))])
            joint = joint_walk(one, two, tree, one.root_context(), two.root_context(), joint_begin())
            told.append(alike_at_end(joint))
            self.assertEqual(told[-1], print_tree(one, tree) == print_tree(two, tree))
        self.assertGreater(told.count(True), 200)
        self.assertGreater(told.count(False), 200)
