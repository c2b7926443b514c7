import inspect
import itertools

from helpers import BAR, DOT, DOT_INK, Case, some_faces

from pressalike.errors import BadWord
from pressalike.faces import Face
from pressalike.words import columns, is_word, stamps, width, words_up_to

FACE = Face([DOT, BAR])


class TestIsWord(Case):
    def test_lengths(self):
        self.assertIs(is_word(FACE, "a"), True)
        self.assertIs(is_word(FACE, "ab" * 20), True)
        self.assertIs(is_word(FACE, "ab" * 20 + "a"), False)
        self.assertIs(is_word(FACE, ""), False)

    def test_letters_of_another_face(self):
        self.assertIs(is_word(FACE, "ac"), False)
        self.assertIs(is_word(Face([DOT] * 3), "ac"), True)
        self.assertIs(is_word(FACE, "aB"), False)
        self.assertIs(is_word(FACE, "a b"), False)

    def test_what_is_no_text(self):
        for thing in (None, 0, True, ["a"], ("a", "b"), b"a", {"a": 1}):
            self.assertIs(is_word(FACE, thing), False)


class TestColumns(Case):
    def test_examples(self):
        told = [columns(FACE, "aba"), width(FACE, "aba"), stamps(FACE, "a")]
        self.assertEqual(told, [[0, 2, 6], 7, ((('#...', '....', '....', '....'), 0),)])
        self.check_error(BadWord, {"word": "ac"}, width, FACE, "ac")

    def test_wrong_words(self):
        for call in (columns, width, stamps):
            for thing in ("", "c", "ac", "a" * 41, None, 7, True, ["a"], ("a",)):
                self.check_error(BadWord, {"word": thing}, call, FACE, thing)

    def test_longest_word(self):
        self.assertEqual(columns(FACE, "a" * 40), list(range(0, 80, 2)))
        self.assertEqual(width(FACE, "a" * 40), 79)
        self.assertEqual(len(stamps(FACE, "a" * 40)), 40)

    def test_against_gaps(self):
        for face in some_faces():
            for many in (1, 2, 3):
                for letters in itertools.product(face.letters, repeat=many):
                    word = "".join(letters)
                    column, told = 0, []
                    for at, letter in enumerate(word):
                        if at:
                            column += face.step(word[at - 1]) + face.gap(word[at - 1], letter)
                        told.append(column)
                    self.assertEqual(columns(face, word), told)
                    self.assertEqual(width(face, word), told[-1] + face.step(word[-1]))
                    pairs = tuple((face.ink(letter), at) for letter, at in zip(word, told))
                    self.assertEqual(stamps(face, word), pairs)

    def test_kinds_of_values(self):
        self.assertIs(type(columns(FACE, "ab")), list)
        self.assertIs(type(stamps(FACE, "ab")), tuple)
        self.assertEqual(stamps(FACE, "ab")[0], (DOT_INK, 0))

    def test_the_list_is_new(self):
        columns(FACE, "ab").append(9)
        self.assertEqual(columns(FACE, "ab"), [0, 2])


class TestWordsUpTo(Case):
    def test_examples(self):
        self.assertEqual(list(words_up_to(FACE, 2)), ['a', 'b', 'aa', 'ab', 'ba', 'bb'])
        self.assertEqual(list(words_up_to(FACE, 1, least=2)), [])

    def test_is_a_generator(self):
        self.assertTrue(inspect.isgeneratorfunction(words_up_to))

    def test_least_is_passed_by_keyword(self):
        with self.assertRaises(TypeError):
            list(words_up_to(FACE, 2, 1))

    def test_none(self):
        self.assertEqual(list(words_up_to(FACE, 0)), [])
        self.assertEqual(list(words_up_to(FACE, 6, least=7)), [])
        self.assertEqual(list(words_up_to(FACE, 2, least=3)), [])

    def test_least(self):
        self.assertEqual(list(words_up_to(FACE, 2, least=2)), ["aa", "ab", "ba", "bb"])
        self.assertEqual(list(words_up_to(FACE, 2, least=1)), list(words_up_to(FACE, 2)))

    def test_all_words_in_order(self):
        for face in (Face([DOT]), FACE, Face([DOT] * 3), Face([DOT] * 4)):
            for least in (1, 2, 4):
                told = [
                    "".join(letters) for many in range(least, 5)
                    for letters in itertools.product(face.letters, repeat=many)
                ]
                self.assertEqual(list(words_up_to(face, 4, least=least)), told)
                self.assertEqual(told, sorted(told, key=lambda word: (len(word), word)))
        self.assertEqual(len(list(words_up_to(Face([DOT] * 4), 6, least=6))), 4 ** 6)

    def test_two_faces_in_turn(self):
        one, two = words_up_to(FACE, 2), words_up_to(Face([DOT] * 3), 2, least=2)
        told = [(next(one), next(two)) for _ in range(4)]
        self.assertEqual(told, [("a", "aa"), ("b", "ab"), ("aa", "ac"), ("ab", "ba")])
