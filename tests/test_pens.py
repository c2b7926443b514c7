import itertools

from helpers import BAR, DOT, Case, some_faces
from plainly import all_texts, all_words, text_cost

from pressalike.errors import BadFace, NoRank, NotEndless, PressError
from pressalike.faces import Face
from pressalike.fill import fill, line_count
from pressalike.pens import LineGain, pen_after, text_ends
from pressalike.words import is_word, width

FACE = Face([DOT])
SHORT = [face for face in some_faces() if len(face.letters) <= 2]


def plain_pen(face, measure, words):
    """The words of [5.2]: the end of the last word, every end above the measure told as the measure plus 1."""
    if not words:
        return 0
    word, column = fill(face, measure, words)[-1][-1]
    return min(column + width(face, word), measure + 1)


def plain_ranks(one, measure_one, two, measure_two):
    """The ranks that texts with up to 100 words reach, by all words of up to 7 letters."""
    widths = {
        (min(width(one, word), measure_one + 1), min(width(two, word), measure_two + 1)) for word in all_words(one.letters, 7)
    }

    def behind(pens, wide):
        told = []
        for measure, pen, more in zip((measure_one, measure_two), pens, wide):
            joins = pen > 0 and pen + 1 + more <= measure
            told.append((pen + 1 + more if joins else more, not joins))
        return (told[0][0], told[1][0]), told[0][1] - told[1][1]

    reached, todo = {}, [(0, 0)]
    while todo:
        pens = todo.pop()
        if pens not in reached:
            reached[pens] = {behind(pens, wide) for wide in widths}
            todo += [after for after, _ in reached[pens]]
    ranks = dict.fromkeys(reached, 0)
    for _ in range(100):
        more = {pens: max([0] + [gain + ranks[after] for after, gain in reached[pens]]) for pens in reached}
        if more == ranks:
            break
        ranks = more
    return ranks


class TestPens(Case):
    def test_examples(self):
        told = (pen_after(4, 0, 2), pen_after(4, 2, 1), pen_after(4, 2, 2), pen_after(4, 5, 9))
        self.assertEqual(told, ((2, True), (4, False), (2, True), (5, True)))

    def test_all(self):
        for measure in range(1, 8):
            for wide in range(1, 10):
                self.assertEqual(pen_after(measure, 0, wide), (min(wide, measure + 1), True))
                for pen in range(1, measure + 2):
                    if pen + 1 + wide <= measure:
                        self.assertEqual(pen_after(measure, pen, wide), (pen + 1 + wide, False))
                    else:
                        self.assertEqual(pen_after(measure, pen, wide), (min(wide, measure + 1), True))
        self.assertIs(pen_after(3, 0, 1)[1], True)
        self.assertIs(pen_after(3, 1, 1)[1], False)

    def test_texts(self):
        for face in SHORT[:9]:
            for measure in (1, 3, 6):
                for _, words in all_texts(face.letters, 6):
                    if words:
                        ahead = plain_pen(face, measure, words[:-1])
                        pen, begins = pen_after(measure, ahead, width(face, words[-1]))
                        self.assertEqual(pen, plain_pen(face, measure, words))
                        more = line_count(face, measure, words) - line_count(face, measure, words[:-1])
                        self.assertEqual(begins, more == 1)


class TestTextEnds(Case):
    def test_example(self):
        self.assertEqual(text_ends(FACE, 2, 1), [(0, 0, ()), (1, 1, ('a',)), (1, 3, ('aa',))])

    def test_no_line(self):
        for face in some_faces():
            self.assertEqual(text_ends(face, 3, 0), [(0, 0, ())])

    def test_against_all_texts(self):
        for face in SHORT:
            letters, most_cost = face.letters, 9 if len(face.letters) == 1 else 7
            texts = all_texts(letters, most_cost)
            for measure, most in itertools.product((1, 2, 3, 6), (0, 1, 2, 6)):
                wanted = {}
                for _, words in texts:
                    end = (line_count(face, measure, words), plain_pen(face, measure, words))
                    if end[0] <= most:
                        wanted.setdefault(end, words)
                rows = text_ends(face, measure, most)
                self.assertEqual(rows, sorted(rows))
                told = {row[:2]: row[2] for row in rows}
                self.assertEqual(len(told), len(rows))
                self.assertLessEqual(set(wanted), set(told))
                for end, words in told.items():
                    self.assertEqual((line_count(face, measure, words), plain_pen(face, measure, words)), end)
                    if text_cost(words) <= most_cost:
                        self.assertEqual(words, wanted[end])

    def test_every_count_has_every_pen_of_its_last_line(self):
        for face in some_faces():
            for measure in range(1, 7):
                rows = text_ends(face, measure, 6)
                pens = {count: [row[1] for row in rows if row[0] == count] for count in range(7)}
                self.assertEqual(pens[0], [0])
                for count in range(2, 7):
                    self.assertEqual(pens[count], pens[1])

    def test_each_list_is_new(self):
        text_ends(FACE, 2, 1).clear()
        self.assertEqual(len(text_ends(FACE, 2, 1)), 3)


class TestLineGain(Case):
    def gain(self, fields, words):
        one, measure_one, two, measure_two = fields
        return line_count(one, measure_one, words) - line_count(two, measure_two, words)

    def pens(self, fields, words):
        return plain_pen(fields[0], fields[1], words), plain_pen(fields[2], fields[3], words)

    def check(self, fields, most_cost):
        """Compare with all texts that cost at most so much."""
        told = LineGain(*fields)
        texts = [words for _, words in all_texts(fields[0].letters, most_cost)]
        gains = {words: self.gain(fields, words) for words in texts}
        if told.is_endless:
            self.check_endless(fields, told)
            return True
        self.assertIs(told.is_endless, False)
        self.assertEqual((told.ahead, told.again), (None, None))
        self.assertEqual(told.most, self.gain(fields, told.words))
        self.assertLessEqual(max(gains.values()), told.most)
        if text_cost(told.words) <= most_cost:
            first = [words for words in texts if gains[words] == told.most][0]
            self.assertEqual(told.words, first)
        self.check_ranks(fields, told, texts, gains)
        return False

    def check_ranks(self, fields, told, texts, gains):
        rows = told.ranks()
        self.assertEqual(rows, sorted(rows))
        ranks = {row[:2]: row[2] for row in rows}
        self.assertEqual((len(ranks), ranks[(0, 0)]), (len(rows), told.most))
        self.assertLessEqual({self.pens(fields, words) for words in texts}, set(ranks))
        self.assertEqual(ranks, plain_ranks(*fields))

    def check_endless(self, fields, told):
        self.assertIs(told.is_endless, True)
        self.assertEqual((told.most, told.words), (None, None))
        self.assertEqual((type(told.ahead), type(told.again)), (tuple, tuple))
        self.assertGreaterEqual(len(told.again), 1)
        ahead = told.ahead
        pens, step = self.pens(fields, ahead), self.gain(fields, ahead + told.again) - self.gain(fields, ahead)
        self.assertGreaterEqual(step, 1)
        for _ in range(3):
            self.assertEqual(self.pens(fields, ahead + told.again), pens)
            self.assertEqual(self.gain(fields, ahead + told.again) - self.gain(fields, ahead), step)
            ahead += told.again
        for number in (0, 1, 2, 30):
            text = told.sample(number)
            self.assertGreaterEqual(self.gain(fields, text), number)
            behind = text[len(told.ahead):]
            self.assertEqual(text[:len(told.ahead)], told.ahead)
            self.assertEqual(behind, told.again * (len(behind) // len(told.again)))
        for word in told.ahead + told.again:
            self.assertTrue(is_word(fields[0], word))
        self.check_error(NoRank, {"deed": "words"}, told.ranks)

    def test_examples(self):
        gain = LineGain(FACE, 3, FACE, 1)
        self.assertEqual((gain.is_endless, gain.most, gain.words, gain.ranks()[0]), (False, 0, (), (0, 0, 0)))
        self.assertGreaterEqual(line_count(FACE, 1, LineGain(FACE, 1, FACE, 3).sample(2)), 3)

    def test_equal_settings(self):
        for face in some_faces():
            for measure in (1, 4):
                gain = LineGain(face, measure, face, measure)
                self.assertEqual((gain.most, gain.words), (0, ()))
                self.assertEqual([row for row in gain.ranks() if row[0] != row[1] or row[2] != 0], [])

    def test_one_letter(self):
        told = []
        for one, two in itertools.product([face for face in SHORT if len(face.letters) == 1], repeat=2):
            for measures in itertools.product((1, 2, 3, 5, 6), repeat=2):
                told.append(self.check((one, measures[0], two, measures[1]), 9))
        self.assertIn(True, told)
        self.assertIn(False, told)

    def test_two_letters(self):
        told, ranks = [], []
        faces = [face for face in SHORT if len(face.letters) == 2][::2]
        for one, two in itertools.product(faces, repeat=2):
            for measures in ((1, 1), (2, 3), (4, 4), (6, 1)):
                fields = (one, measures[0], two, measures[1])
                told.append(self.check(fields, 6))
                if not told[-1]:
                    ranks += [row[2] for row in LineGain(*fields).ranks()]
        self.assertIn(True, told)
        self.assertEqual(set(ranks), {0, 1})

    def test_a_gain_that_ends(self):
        # The first face sets all words wider; yet under a measure of 1 each word has a line of its own in both.
        wide = Face([BAR])
        gain = LineGain(wide, 1, FACE, 1)
        self.assertEqual((gain.most, gain.words), (0, ()))
        self.assertEqual({row[2] for row in gain.ranks()}, {0})
        self.check((wide, 4, FACE, 2), 9)

    def test_other_letters(self):
        two = Face([DOT, BAR])
        self.check_error(BadFace, {"count": 2}, LineGain, FACE, 3, two, 3)
        self.check_error(BadFace, {"count": 1}, LineGain, two, 3, FACE, 3)

    def test_refused(self):
        gain = LineGain(FACE, 3, FACE, 1)
        for number in (0, 1, 30):
            self.check_error(NotEndless, {"deed": "words"}, gain.sample, number)
        self.check_error(NoRank, {"deed": "words"}, LineGain(FACE, 1, FACE, 3).ranks)
        self.assertEqual((NotEndless.__bases__, NoRank.__bases__), ((PressError,), (PressError,)))

    def test_each_list_is_new(self):
        gain = LineGain(FACE, 3, FACE, 1)
        gain.ranks().clear()
        self.assertGreater(len(gain.ranks()), 1)
