import itertools
import random

from helpers import BAR, DOT, Case, some_faces
from plainly import Book, all_texts, histories, text_cost

from pressalike.errors import BadFace, BadStanding
from pressalike.faces import Face
from pressalike.fill import line_count
from pressalike.pages import Page
from pressalike.sheets import Sheet
from pressalike.standings import after_block, count_class, standings
from pressalike.styles import Style
from pressalike.together import both_after, class_pairs, pairs_after, parting_blocks, text_after, text_pairs
from test_standings import SETTINGS, WRONG

FACE = Face([DOT])
TOP, OPEN = ("top", 0, 0), ("open", 1, 0)
SHORT = [face for face in some_faces() if len(face.letters) <= 2]


def values(face=0, measure=3, space=0, kept=False, page=False, out=False):
    return face, measure, space, kept, page, out


def some_values(chance):
    return values(chance.randrange(2), chance.randrange(1, 7), chance.randrange(3), chance.random() < 0.5,
                  chance.random() < 0.2, chance.random() < 0.2)


def behind(length, standing, count, told):
    """What a block with these values leaves: nothing else if it is left out."""
    if told[5]:
        return standing
    return after_block(length, standing, count, space=told[2], kept=told[3], page=told[4])


class TestBothAfter(Case):
    def test_example(self):
        self.assertEqual(both_after(2, (TOP, OPEN)), [((OPEN, OPEN), 3), ((OPEN, TOP), 1), ((TOP, TOP), 2)])

    def test_all_pairs(self):
        for length in (2, 3, 4):
            for pair, settings in itertools.product(itertools.product(standings(length), repeat=2), SETTINGS):
                wanted = {}
                for count in range(1, 2 * length + 6):
                    told = tuple(after_block(length, one, count, **settings) for one in pair)
                    wanted.setdefault(told, count)
                self.assertEqual(both_after(length, pair, **settings), sorted(wanted.items()))

    def test_equal_standings_stay_equal(self):
        for length in (2, 5, 9):
            for one in standings(length):
                for (first, second), _ in both_after(length, (one, one), kept=True):
                    self.assertEqual(first, second)

    def test_what_is_left_out_of_the_call(self):
        for pair in itertools.product(standings(3), repeat=2):
            self.assertEqual(both_after(3, pair), both_after(3, pair, space=0, kept=False, page=False))
            self.assertEqual(both_after(3, pair, space=2), both_after(3, pair, space=2, kept=False, page=False))

    def test_no_standing(self):
        for wrong in WRONG:
            self.check_error(BadStanding, {"standing": wrong}, both_after, 3, (wrong, TOP))
            self.check_error(BadStanding, {"standing": wrong}, both_after, 3, (TOP, wrong), page=True)
            self.check_error(BadStanding, {"standing": wrong}, both_after, 3, (wrong, "no standing"))

    def test_each_list_is_new(self):
        both_after(2, (TOP, OPEN)).clear()
        self.assertEqual(len(both_after(2, (TOP, OPEN))), 3)


class TestClassPairs(Case):
    def check(self, length, fields, most):
        wanted = {}
        for _, words in all_texts(fields[0].letters, most):
            told = (count_class(length, line_count(fields[0], fields[1], words)),
                    count_class(length, line_count(fields[2], fields[3], words)))
            wanted.setdefault(told, words)
        rows = class_pairs(length, *fields)
        self.assertEqual(rows, sorted(rows))
        told = {row[:2]: row[2] for row in rows}
        self.assertEqual(len(told), len(rows))
        self.assertLessEqual(set(wanted), set(told))
        for pair, words in told.items():
            self.assertEqual(count_class(length, line_count(fields[0], fields[1], words)), pair[0])
            self.assertEqual(count_class(length, line_count(fields[2], fields[3], words)), pair[1])
            if text_cost(words) <= most:
                self.assertEqual(words, wanted[pair])

    def test_example(self):
        self.assertEqual(class_pairs(2, FACE, 1, FACE, 1)[:3], [(0, 0, ()), (1, 1, ('a',)), (2, 2, ('a', 'a'))])

    def test_one_letter(self):
        faces = [face for face in SHORT if len(face.letters) == 1]
        for one, two in itertools.product(faces, repeat=2):
            for length, measures in itertools.product((2, 4), ((1, 1), (1, 3), (3, 2), (6, 5))):
                self.check(length, (one, measures[0], two, measures[1]), 11)

    def test_two_letters(self):
        faces = [face for face in SHORT if len(face.letters) == 2][::3]
        for one, two in itertools.product(faces, repeat=2):
            for length, measures in itertools.product((2, 3), ((1, 3), (4, 4), (6, 2))):
                self.check(length, (one, measures[0], two, measures[1]), 7)

    def test_equal_settings(self):
        for length in (2, 3, 4, 9):
            rows = class_pairs(length, FACE, 4, Face([DOT]), 4)
            self.assertEqual([row[:2] for row in rows], [(at, at) for at in range(length + 4)])

    def test_other_letters(self):
        self.check_error(BadFace, {"count": 2}, class_pairs, 2, FACE, 3, Face([DOT, BAR]), 3)
        self.check_error(BadFace, {"count": 1}, class_pairs, 2, Face([DOT, BAR]), 3, FACE, 3)


class TestPairsAfter(Case):
    def test_against_the_texts_found(self):
        chance = random.Random(81)
        for _ in range(400):
            length = chance.choice((2, 3, 4))
            found = class_pairs(length, FACE, chance.randrange(1, 4), FACE, chance.randrange(1, 4))
            found = chance.sample(found, chance.randrange(1, len(found) + 1))
            one, two = chance.choice(standings(length)), chance.choice(standings(length))
            first, second = some_values(chance), some_values(chance)
            wanted = {}
            for count, other, words in sorted(found, key=lambda row: (text_cost(row[2]), row[2])):
                pair = behind(length, one, count, first), behind(length, two, other, second)
                wanted.setdefault(pair, words)
            kept = list(found)
            told = pairs_after(length, found, one, first, two, second)
            self.assertEqual(told, sorted(pair + (words,) for pair, words in wanted.items()))
            self.assertEqual(found, kept)

    def test_face_and_measure_mean_nothing(self):
        found = class_pairs(2, FACE, 2, FACE, 1)
        told = [pairs_after(2, found, TOP, values(face, measure), OPEN, values(1 - face, 7 - measure))
                for face in (0, 1) for measure in (1, 4)]
        self.assertEqual(told, [told[0]] * 4)

    def test_left_out(self):
        found = class_pairs(2, FACE, 1, FACE, 1)
        out = values(page=True, out=True)
        self.assertEqual(pairs_after(2, found, TOP, out, OPEN, out), [(TOP, OPEN, ())])
        told = pairs_after(2, found, TOP, values(), OPEN, out)
        self.assertEqual(told, [(OPEN, OPEN, ("a",)), (TOP, OPEN, ())])

    def test_no_texts(self):
        self.assertEqual(pairs_after(2, [], TOP, values(), TOP, values()), [])

    def test_no_standing(self):
        found, out = class_pairs(3, FACE, 1, FACE, 1), values(out=True)
        for wrong in WRONG:
            for rows, told in ((found, values()), (found, out), ([], values())):
                self.check_error(BadStanding, {"standing": wrong}, pairs_after, 3, rows, wrong, told, TOP, told)
                self.check_error(BadStanding, {"standing": wrong}, pairs_after, 3, rows, TOP, told, wrong, told)
                self.check_error(BadStanding, {"standing": wrong}, pairs_after, 3, rows, wrong, told, "no standing", told)


class TestTexts(Case):
    STYLE = Style(Sheet([]), [FACE], measure=2)

    def test_examples(self):
        told = values(measure=2)
        self.assertEqual(text_pairs(self.STYLE, TOP, told, OPEN, told)[1:3], [(OPEN, TOP, ('a',)), (TOP, OPEN, ())])
        self.assertEqual(text_after(self.STYLE, TOP, told), [(OPEN, ('a',)), (TOP, ())])

    def check(self, style, one, first, two, second, most):
        wanted = {}
        for _, words in all_texts(style.faces[0].letters, most):
            counts = [line_count(style.face(told[0]), told[1], words) for told in (first, second)]
            pair = behind(style.length, one, counts[0], first), behind(style.length, two, counts[1], second)
            wanted.setdefault(pair, words)
        rows = text_pairs(style, one, first, two, second)
        self.assertEqual(rows, sorted(rows))
        found = {row[:2]: row[2] for row in rows}
        self.assertEqual(len(found), len(rows))
        self.assertLessEqual(set(wanted), set(found))
        for pair, words in found.items():
            if text_cost(words) <= most:
                self.assertEqual(words, wanted[pair])
            counts = [line_count(style.face(told[0]), told[1], words) for told in (first, second)]
            self.assertEqual(pair, (behind(style.length, one, counts[0], first), behind(style.length, two, counts[1], second)))
        return wanted

    def test_against_all_texts(self):
        chance = random.Random(82)
        for _ in range(150):
            letters = chance.choice((1, 1, 2))
            faces = chance.sample([face for face in SHORT if len(face.letters) == letters], chance.randrange(1, 3))
            style = Style(Sheet([]), faces, length=chance.randrange(2, 5))
            one, two = chance.choice(standings(style.length)), chance.choice(standings(style.length))
            first, second = some_values(chance), some_values(chance)
            self.check(style, one, first, two, second, 10 if letters == 1 else 7)
            told = text_after(style, one, first)
            self.assertEqual(told, [(row[0], row[2]) for row in text_pairs(style, one, first, one, first)])
            self.assertEqual(told, sorted(told))

    def test_every_count_is_there(self):
        # With a measure of 1 each word is a line, so texts of so many words leave all that counts can do.
        style = Style(Sheet([]), [FACE], length=4)
        for one, two in itertools.product(standings(4), repeat=2):
            told = values(measure=1, kept=True, space=1)
            wanted = {}
            for count in range(30):
                pair = behind(4, one, count, told), behind(4, two, count, told)
                wanted.setdefault(pair, ("a",) * count)
            found = text_pairs(style, one, told, two, told)
            self.assertEqual(found, sorted(pair + (words,) for pair, words in wanted.items()))

    def test_left_out(self):
        out = values(out=True, page=True)
        for one in standings(2):
            self.assertEqual(text_after(self.STYLE, one, out), [(one, ())])
        self.assertEqual(text_pairs(self.STYLE, TOP, out, OPEN, values(page=True)), [(TOP, OPEN, ("a",)), (TOP, TOP, ())])

    def test_two_faces(self):
        style = Style(Sheet([]), [FACE, Face([BAR])])
        self.assertEqual(text_after(style, TOP, values(face=1, measure=3)), [(OPEN, ("a",)), (TOP, ())])
        told = text_pairs(style, TOP, values(face=0, measure=3), TOP, values(face=1, measure=3))
        self.assertEqual(told[1], (OPEN, TOP, ("a", "a")))

    def test_no_standing(self):
        style = Style(Sheet([]), [FACE], length=3)
        for wrong in WRONG:
            for told in (values(), values(out=True)):
                self.check_error(BadStanding, {"standing": wrong}, text_after, style, wrong, told)
                self.check_error(BadStanding, {"standing": wrong}, text_pairs, style, wrong, told, TOP, told)
                self.check_error(BadStanding, {"standing": wrong}, text_pairs, style, TOP, told, wrong, told)
                self.check_error(BadStanding, {"standing": wrong}, text_pairs, style, wrong, told, None, told)


class TestParting(Case):
    def lines(self, length, standing, blocks):
        page = Page.resumed(length, standing)
        for count, space, kept, is_due in blocks:
            page.block(count, space=space, kept=kept, page=is_due)
        return page.finish()

    def is_exception(self, length, one, two):
        for first, second in ((one, two), (two, one)):
            if first[:2] == ("kept", length) and second == ("kept", first[2], 0):
                return True
        return one == two

    def test_example(self):
        self.assertIsNone(parting_blocks(2, ("kept", 2, 1), ("kept", 1, 0)))

    def test_all_pairs(self):
        for length in range(2, 10):
            for one, two in itertools.product(standings(length), repeat=2):
                blocks = parting_blocks(length, one, two)
                if self.is_exception(length, one, two):
                    self.assertIsNone(blocks)
                else:
                    self.assertEqual((type(blocks), {type(block) for block in blocks}), (list, {tuple}))
                    self.assertTrue(1 <= len(blocks) <= length + 1)
                    self.assertNotEqual(self.lines(length, one, blocks), self.lines(length, two, blocks))

    def test_in_plain_books(self):
        for length in (2, 3, 4):
            rows = histories(length)
            for one, two in itertools.permutations(rows, 2):
                blocks = parting_blocks(length, one, two)
                if blocks is not None:
                    first, second = rows[one][-1], rows[two][-1]
                    many = sum(block[0] for block in blocks)
                    told = [Book(length, row + tuple(blocks)).lines()[-many:] for row in (first, second)]
                    self.assertNotEqual(told[0], told[1])

    def test_the_exception_is_parted_by_no_blocks(self):
        blocks = [(count, space, kept, False) for count in (1, 2, 3, 4) for space in (0, 1) for kept in (False, True)]
        for length in (2, 3, 4):
            for rows in range(1, length):
                one, two = ("kept", length, rows), ("kept", rows, 0)
                for row in itertools.product(blocks, repeat=2):
                    self.assertEqual(self.lines(length, one, row), self.lines(length, two, row))

    def test_no_standing(self):
        for wrong in WRONG:
            self.check_error(BadStanding, {"standing": wrong}, parting_blocks, 3, wrong, TOP)
            self.check_error(BadStanding, {"standing": wrong}, parting_blocks, 3, TOP, wrong)
            self.check_error(BadStanding, {"standing": wrong}, parting_blocks, 3, wrong, wrong)
            self.check_error(BadStanding, {"standing": wrong}, parting_blocks, 3, wrong, "no standing")
