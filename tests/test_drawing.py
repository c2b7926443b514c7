from helpers import BAR, DOT, DOT_INK, FOOT, FULL, HOOK, Case, some_faces
from plainly import all_texts

from pressalike.drawing import draw_line, draw_page, draw_print
from pressalike.faces import Face
from pressalike.prints import Print
from pressalike.setter import block_stamps, print_tree
from pressalike.sheets import Sheet
from pressalike.styles import Style
from pressalike.treetext import read_tree

INK = DOT_INK
LINE = ((INK, 0),)
EMPTY = ["  |", "  |", "  |"]


class TestLine(Case):
    def test_examples(self):
        self.assertEqual(draw_line(((INK, 0), (INK, 2))), ('#.#', '...', '...', '...'))

    def test_one_stamp(self):
        self.assertEqual(draw_line(LINE), ("#", ".", ".", "."))
        self.assertEqual(draw_line(((INK, 2),)), ("..#", "...", "...", "..."))
        hook = ("#...", "....", "....", "###.")
        self.assertEqual(draw_line(((hook, 0),)), ("#..", "...", "...", "###"))
        self.assertEqual(draw_line(((hook, 1),)), (".#..", "....", "....", ".###"))

    def test_the_length_is_that_of_the_ink(self):
        late = ("..#.", "....", "....", "....")
        self.assertEqual(draw_line(((late, 0),)), ("..#", "...", "...", "..."))
        # The last stamp is not the one that reaches furthest.
        wide = ("####", "....", "....", "....")
        low = ("....", "#...", "....", "....")
        self.assertEqual(draw_line(((wide, 0), (low, 1))), ("####", ".#..", "....", "...."))

    def test_stamps_that_lie_over_one_another(self):
        high, low = ("###.", "....", "....", "...."), ("....", "....", "....", "####")
        self.assertEqual(draw_line(((high, 0), (low, 1))), ("###..", ".....", ".....", ".####"))
        self.assertEqual(draw_line(((low, 1), (high, 0))), ("###..", ".....", ".....", ".####"))

    def test_sign_by_sign(self):
        for face in some_faces():
            style = Style(Sheet([]), [face])
            for _, words in all_texts(face.letters, 5):
                for line in block_stamps(style, (0, 6, 0, False, False, False), words):
                    cells = [(column + x, y) for ink, column in line for y in range(4) for x in range(4) if ink[y][x] == "#"]
                    self.assertEqual(len(set(cells)), len(cells))
                    long = max(x for x, _ in cells) + 1
                    wanted = tuple("".join("#" if (x, y) in cells else "." for x in range(long)) for y in range(4))
                    self.assertEqual(draw_line(line), wanted)


class TestPage(Case):
    def test_examples(self):
        told = draw_page(Print([[(True, 0, ((INK, 0),))]]), 0, 2)
        self.assertEqual(told, [' 0|#', '  |.', '  |.', '  |.', ' 1|', '  |', '  |', '  |'])

    def test_rows_without_a_line(self):
        printed = Print([[(True, 0, LINE)], [], [(False, 2, ((INK, 1),))]])
        self.assertEqual(draw_page(printed, 0, 4), [
            " 0|#", "  |.", "  |.", "  |.", " 1|"] + EMPTY + [" 2|.#", "  |..", "  |..", "  |..", " 3|"] + EMPTY)

    def test_pages_that_do_not_exist(self):
        printed = Print([[(True, 0, LINE), (True, 0, LINE)]])
        self.assertEqual(len(draw_page(printed, 1, 3)), 12)
        for number in (2, 3, -1, -2, 10 ** 20):
            self.assertEqual(draw_page(printed, number, 3), [])
        self.assertEqual(draw_page(Print([]), 0, 2), [])
        self.assertEqual(draw_page(Print([[]]), 0, 2), [])

    def test_each_page(self):
        printed = Print([[(True, 0, LINE), (False, 1, LINE)], [(True, 0, ((INK, 2),))]])
        self.assertEqual(draw_page(printed, 0, 2), [" 0|#", "  |.", "  |.", "  |.", " 1|#", "  |.", "  |.", "  |."])
        self.assertEqual(draw_page(printed, 1, 2), [" 0|..#", "  |...", "  |...", "  |...", " 1|"] + EMPTY)

    def test_lengths(self):
        printed = Print([[(True, 0, LINE)]])
        for length in range(1, 13):
            told = draw_page(printed, 0, length)
            self.assertEqual(len(told), 4 * length)
            self.assertEqual([text[:3] for text in told[::4]], [str(row).rjust(2) + "|" for row in range(length)])


class TestPrint(Case):
    def test_no_lines(self):
        for blocks in ([], [[]], [[], []]):
            self.assertEqual(draw_print(Print(blocks), 3), "")

    def test_one_page(self):
        wanted = "page   1 of   1\n 0|#\n  |.\n  |.\n  |.\n 1|\n  |\n  |\n  |"
        self.assertEqual(draw_print(Print([[(True, 0, LINE)]]), 2), wanted)

    def test_pages(self):
        for many in (2, 11, 120):
            printed = Print([[(True, 0, LINE)] for _ in range(many)])
            lines = draw_print(printed, 2).split("\n")
            self.assertEqual(len(lines), 9 * many)
            for number in range(many):
                head = "page " + str(number + 1).rjust(3) + " of " + str(many).rjust(3)
                self.assertEqual(lines[9 * number:9 * number + 9], [head] + draw_page(printed, number, 2))

    def test_a_set_tree(self):
        style = Style(Sheet([]), [Face([FULL, HOOK])], measure=6)
        printed = print_tree(style, read_tree("A{B[ba] B[a a b]}"))
        self.assertEqual(draw_print(printed, 2), "\n".join([
            "page   1 of   2",
            " 0|#...##", "  |....##", "  |....##", "  |###.##", " 1|", "  |", "  |", "  |",
            "page   2 of   2",
            " 0|##.##", "  |##.##", "  |##.##", "  |##.##", " 1|#..", "  |...", "  |...", "  |###",
        ]))

    def test_letters_that_reach_under_others(self):
        style = Style(Sheet([]), [Face([BAR, FOOT], 0)], measure=6)
        printed = print_tree(style, read_tree("A[ab]"))
        self.assertEqual(draw_page(printed, 0, 2)[:4], [" 0|###....", "  |.......", "  |.......", "  |...####"])

    def test_lines_ahead_of_the_first_page(self):
        printed = Print([[(False, 1, LINE), (True, 0, ((INK, 1),))]])
        self.assertEqual(draw_print(printed, 2).split("\n")[:3], ["page   1 of   1", " 0|.#", "  |.."])

    def test_dots_and_lines(self):
        printed = print_tree(Style(Sheet([]), [Face([DOT])]), read_tree("A[a a a]"))
        self.assertEqual([text for text in draw_print(printed, 2).split("\n") if "#" in text], [" 0|#.#", " 1|#"])
