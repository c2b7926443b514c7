import random

from helpers import DOT_INK, Case

from pressalike.prints import Print

SHORT = ((DOT_INK, 0),)
LONG = ((DOT_INK, 0), (DOT_INK, 2))


def line(row, stamps=SHORT):
    return row == 0, row, stamps


class TestPrint(Case):
    def test_examples(self):
        short = (("#...", "....", "....", "...."), 0)
        one = Print([[(True, 0, (short,))], [], [(False, 1, (short,))]])
        self.assertEqual((len(one), one.pages, one.lines_of(0) == list(one), one.lines_of(1)), (2, 1, True, []))
        told = (one.unlike(Print([[(True, 0, (short,))], [], []])), one.unlike(Print(one.blocks + ((),))))
        self.assertEqual(told, ((2, 0), (3, 0)))

    def test_blocks(self):
        for rows in ([[line(0)], [], [line(1), line(2)]], ((line(0),), (), (line(1), line(2)))):
            printed = Print(rows)
            self.assertEqual(printed.blocks, ((line(0),), (), (line(1), line(2))))
            self.assertEqual((len(printed), list(printed)), (3, [line(0), line(1), line(2)]))
            self.assertIs(type(printed.blocks), tuple)
            self.assertEqual({type(lines) for lines in printed.blocks}, {tuple})

    def test_no_blocks(self):
        printed = Print([])
        told = (printed.blocks, len(printed), list(printed), printed.pages, printed.lines_of(0))
        self.assertEqual(told, ((), 0, [], 0, []))
        self.assertFalse(Print([]) == Print([[]]))

    def test_pages(self):
        for many in range(5):
            printed = Print([[line(0), line(1)] for _ in range(many)] + [[], [line(2)]])
            self.assertEqual(printed.pages, many)

    def test_lines_of(self):
        printed = Print([[line(0), line(1)], [], [line(0), line(2)], [line(0, LONG)]])
        self.assertEqual(printed.lines_of(0), [line(0), line(1)])
        self.assertEqual(printed.lines_of(1), [line(0), line(2)])
        self.assertEqual(printed.lines_of(2), [line(0, LONG)])
        for number in (3, 4, 10 ** 20, -1, -2, -10 ** 20):
            self.assertEqual(printed.lines_of(number), [])

    def test_lines_ahead_of_the_first_page(self):
        printed = Print([[line(1), line(2)], [line(0)], [line(1, LONG)]])
        self.assertEqual((printed.pages, len(printed)), (1, 4))
        self.assertEqual(printed.lines_of(0), [line(0), line(1, LONG)])
        for number in (-1, -2, 1):
            self.assertEqual(printed.lines_of(number), [])
        self.assertEqual(Print([[line(1)]]).lines_of(0), [])

    def test_equal(self):
        rows = [[line(0)], [], [line(1, LONG)]]
        self.assertTrue(Print(rows) == Print(tuple(map(tuple, rows))))
        self.assertFalse(Print(rows) != Print(rows))
        for other in (
            Print([[line(0)], [line(1, LONG)], []]), Print([[line(0)], [line(1, LONG)]]), Print(rows + [[]]), Print(rows[:2]),
            Print([[line(0)], [], [line(1)]]), Print([[line(0)], [], [line(2, LONG)]]), Print([[line(0)], [], [(True, 1, LONG)]]),
            None, rows, Print(rows).blocks, 2,
        ):
            self.assertFalse(Print(rows) == other)
            self.assertTrue(Print(rows) != other)

    def test_lists_that_are_changed(self):
        rows = [[line(0)], [line(1)]]
        printed = Print(rows)
        rows[0].append(line(2))
        rows.append([])
        printed.lines_of(0).clear()
        self.assertEqual((printed.blocks, len(printed)), (((line(0),), (line(1),)), 2))
        self.assertEqual(printed.lines_of(0), [line(0), line(1)])


class TestUnlike(Case):
    def check(self, one, two):
        """The words: the least (block, line) at which just one has a line or the two differ; else the fewer blocks."""
        wanted = None
        for block in range(max(len(one), len(two))):
            mine = one[block] if block < len(one) else ()
            theirs = two[block] if block < len(two) else ()
            for at in range(max(len(mine), len(theirs))):
                if wanted is None and list(mine[at:at + 1]) != list(theirs[at:at + 1]):
                    wanted = (block, at)
        if wanted is None and len(one) != len(two):
            wanted = (min(len(one), len(two)), 0)
        self.assertEqual(Print(one).unlike(Print(two)), wanted)
        self.assertEqual(Print(two).unlike(Print(one)), wanted)
        return wanted

    def test_equal(self):
        for rows in ([], [[]], [[line(0)], [], [line(1)]]):
            self.assertIsNone(self.check(rows, rows))

    def test_a_line_changed(self):
        rows = [[line(0)], [line(1), line(2)]]
        self.assertEqual(self.check(rows, [[line(0)], [line(1), line(3)]]), (1, 1))
        self.assertEqual(self.check(rows, [[line(0)], [line(1, LONG), line(3)]]), (1, 0))
        self.assertEqual(self.check(rows, [[(False, 0, SHORT)], [line(1), line(2)]]), (0, 0))

    def test_a_line_taken_out_or_put_in(self):
        rows = [[line(0)], [line(1), line(2)], []]
        self.assertEqual(self.check(rows, [[line(0)], [line(1)], []]), (1, 1))
        self.assertEqual(self.check(rows, [[line(0)], [line(2)], []]), (1, 0))
        self.assertEqual(self.check(rows, [[line(0)], [line(1), line(2)], [line(3)]]), (2, 0))
        self.assertEqual(self.check(rows, [[], [line(1), line(2)], []]), (0, 0))

    def test_more_blocks(self):
        rows = [[line(0)], [line(1)]]
        self.assertEqual(self.check(rows, rows + [[]]), (2, 0))
        self.assertEqual(self.check(rows, rows + [[], []]), (2, 0))
        self.assertEqual(self.check(rows, rows + [[], [line(2)]]), (3, 0))
        self.assertEqual(self.check(rows, rows[:1]), (1, 0))
        self.assertEqual(self.check([], [[]]), (0, 0))

    def test_the_same_lines_in_other_blocks(self):
        self.assertEqual(self.check([[line(0), line(1)]], [[line(0)], [line(1)]]), (0, 1))

    def test_random_ones(self):
        chance = random.Random(91)
        for _ in range(1000):
            one, two = [
                [[line(chance.randrange(2)) for _ in range(chance.randrange(3))] for _ in range(chance.randrange(4))]
                for _ in range(2)
            ]
            self.check(one, two)
