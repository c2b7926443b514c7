import itertools
import random

from helpers import BAR, DOT, Case, some_faces
from plainly import plain_lines

from pressalike.errors import BadWord
from pressalike.faces import Face
from pressalike.fill import fill, fill_widths, line_count
from pressalike.words import width

FACE = Face([DOT])
TWO = Face([DOT, BAR])


class TestWidths(Case):
    def test_example(self):
        self.assertEqual(fill_widths(5, [2, 2, 1, 7, 1]), (((0, 0), (1, 3)), ((2, 0),), ((3, 0),), ((4, 0),)))

    def test_no_words(self):
        for measure in range(1, 7):
            self.assertEqual(fill_widths(measure, []), ())
            self.assertEqual(fill_widths(measure, ()), ())

    def test_ends_at_the_measure_and_one_beyond(self):
        self.assertEqual(fill_widths(5, [2, 2]), (((0, 0), (1, 3)),))
        self.assertEqual(fill_widths(4, [2, 2]), (((0, 0),), ((1, 0),)))
        self.assertEqual(fill_widths(5, [1, 1, 1]), (((0, 0), (1, 2), (2, 4)),))
        self.assertEqual(fill_widths(4, [1, 1, 1]), (((0, 0), (1, 2)), ((2, 0),)))

    def test_words_wider_than_the_measure(self):
        self.assertEqual(fill_widths(2, [3]), (((0, 0),),))
        self.assertEqual(fill_widths(2, [9, 9, 1]), (((0, 0),), ((1, 0),), ((2, 0),)))
        self.assertEqual(fill_widths(4, [1, 9, 1, 2]), (((0, 0),), ((1, 0),), ((2, 0), (3, 2))))
        self.assertEqual(fill_widths(1, [1, 1, 1]), (((0, 0),), ((1, 0),), ((2, 0),)))

    def test_all_short_ones(self):
        for measure in range(1, 8):
            for many in range(5):
                for widths in itertools.product(range(1, 5), repeat=many):
                    self.assertEqual(fill_widths(measure, widths), plain_lines(measure, widths))

    def test_long_ones(self):
        chance = random.Random(51)
        for _ in range(100):
            measure, widths = chance.randrange(1, 30), [chance.randrange(1, 12) for _ in range(60)]
            self.assertEqual(fill_widths(measure, widths), plain_lines(measure, widths))

    def test_what_is_passed_stays(self):
        widths = [2, 2, 1]
        told = fill_widths(5, widths)
        self.assertEqual(widths, [2, 2, 1])
        self.assertEqual((type(told), {type(line) for line in told}), (tuple, {tuple}))


class TestFill(Case):
    def test_examples(self):
        self.assertEqual(fill(FACE, 3, ["a", "a", "aa"]), ((('a', 0), ('a', 2)), (('aa', 0),)))
        self.assertEqual(line_count(FACE, 2, ("a", "a", "aa")), 3)

    def test_no_words(self):
        self.assertEqual((fill(TWO, 1, []), fill(TWO, 6, ()), line_count(TWO, 3, [])), ((), (), 0))

    def test_random_ones(self):
        chance = random.Random(52)
        for face in some_faces():
            for measure in range(1, 7):
                words = ["".join(chance.choice(face.letters) for _ in range(chance.randrange(1, 4))) for _ in range(20)]
                lines = fill(face, measure, words)
                plain = plain_lines(measure, [width(face, word) for word in words])
                self.assertEqual(lines, tuple(tuple((words[place], column) for place, column in line) for line in plain))
                self.assertEqual(line_count(face, measure, tuple(words)), len(plain))

    def test_words_of_40_and_41_letters(self):
        long = "a" * 40
        self.assertEqual(fill(FACE, 3, ["a", long, "a"]), ((("a", 0),), ((long, 0),), (("a", 0),)))
        for call in (fill, line_count):
            self.check_error(BadWord, {"word": long + "a"}, call, FACE, 3, ["a", long + "a"])

    def test_the_first_wrong_word(self):
        for call in (fill, line_count):
            for word in ("b", "", "ab", "A", " ", "a a", None, 1, ["a"], ("a",), b"a", True):
                self.check_error(BadWord, {"word": word}, call, FACE, 3, ["a", word, "c", None])
                self.check_error(BadWord, {"word": word}, call, FACE, 3, (word,))
            self.check_error(BadWord, {"word": "c"}, call, FACE, 3, ["c", "b"])

    def test_a_letter_of_another_face(self):
        for call in (fill, line_count):
            self.check_error(BadWord, {"word": "ab"}, call, FACE, 3, ["a", "ab"])
            self.check_error(BadWord, {"word": "c"}, call, TWO, 3, ["ab", "c"])

    def test_what_is_passed_stays(self):
        words = ["a", "aa"]
        fill(FACE, 2, words)
        line_count(FACE, 2, words)
        self.assertEqual(words, ["a", "aa"])
