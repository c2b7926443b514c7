import random

from helpers import BAR, DOT, HOOK, Case, some_faces
from plainly import all_texts, filled_alike, text_cost

from pressalike.errors import BadStyle
from pressalike.faces import Face
from pressalike.joint import joint_begin, joint_block, joint_page
from pressalike.jointtext import joint_texts
from pressalike.sheets import Sheet
from pressalike.standings import standings
from pressalike.styles import Style

FACE = Face([DOT])
BEGIN = joint_begin()
PLAIN = (0, 3, 0, False, False, False)


def style_of(*faces, length=2):
    return Style(Sheet([]), faces, length=length)


def some_values(chance, like=None):
    told = (chance.randrange(2), chance.randrange(1, 7), chance.randrange(3), chance.random() < 0.5, chance.random() < 0.1,
            chance.random() < 0.1)
    return told if like is None else tuple(a if chance.random() < 0.8 else b for a, b in zip(like, told))


def some_joint(chance, lengths):
    """A joint standing that some blocks leave."""
    joint = BEGIN
    for _ in range(chance.randrange(6)):
        first = some_values(chance)
        after = joint_block(lengths, joint, chance.randrange(4), first, some_values(chance, first))
        joint = joint if after == "parted" else after
    return joint


class TestTexts(Case):
    def check(self, one, two, joint, first, second, most):
        """Compare with all texts that cost at most so much."""
        lengths, wanted = (one.length, two.length), {}
        for cost, words in all_texts(one.faces[0].letters, most):
            count = filled_alike(one, two, first, second, words)
            behind = "parted" if count is None else joint_block(lengths, joint, count, first, second)
            wanted.setdefault(behind, cost)
        told = joint_texts(one, two, joint, first, second)
        self.assertLessEqual(set(wanted), set(told))
        for behind, words in told.items():
            self.assertIs(type(words), tuple)
            count = filled_alike(one, two, first, second, words)
            self.assertEqual(behind, "parted" if count is None else joint_block(lengths, joint, count, first, second))
            if text_cost(words) <= most:
                self.assertEqual(text_cost(words), wanted[behind])
            else:
                self.assertNotIn(behind, wanted)
        return told

    def test_equal_styles(self):
        style = style_of(FACE)
        told = self.check(style, style, BEGIN, PLAIN, PLAIN, 12)
        open_one = (("open", 1, 0), (), ("open", 1, 0), (), ())
        self.assertEqual(told, {BEGIN: (), open_one: ("a",)})

    def test_unlike_measures(self):
        style = style_of(FACE)
        told = self.check(style, style, BEGIN, (0, 1, 0, False, False, False), PLAIN, 12)
        self.assertEqual(told["parted"], ("a", "a"))
        self.assertEqual(len(told), 3)

    def test_unlike_faces(self):
        told = self.check(style_of(FACE), style_of(Face([BAR])), BEGIN, PLAIN, PLAIN, 12)
        self.assertEqual(told, {BEGIN: (), "parted": ("a",)})
        one, two = style_of(Face([DOT, BAR])), style_of(Face([DOT, HOOK]))
        self.assertEqual(self.check(one, two, BEGIN, PLAIN, PLAIN, 7)["parted"], ("b",))
        one, two = style_of(Face([DOT, DOT], 0)), style_of(Face([DOT, DOT], 1))
        self.assertEqual(text_cost(self.check(one, two, BEGIN, PLAIN, PLAIN, 7)["parted"]), 3)

    def test_left_out(self):
        style = style_of(FACE)
        joint = joint_block((2, 2), BEGIN, 1, PLAIN, PLAIN)
        out, page = (0, 3, 0, False, True, True), (0, 3, 0, False, True, False)
        self.assertEqual(joint_texts(style, style, joint, out, out), {joint: ()})
        self.assertEqual(joint_texts(style, style, joint, out, PLAIN), {joint: (), "parted": ("a",)})
        self.assertEqual(joint_texts(style, style, joint, page, out), {joint_page(joint, True, False): (), "parted": ("a",)})
        self.assertEqual(joint_texts(style, style, joint, out, page), {joint_page(joint, False, True): (), "parted": ("a",)})

    def test_parted(self):
        style = style_of(FACE)
        for first in (PLAIN, (0, 3, 0, False, True, True)):
            self.assertEqual(joint_texts(style, style, "parted", first, PLAIN), {"parted": ()})

    def test_parted_without_words(self):
        style = style_of(FACE, length=4)
        joint = joint_block((4, 4), BEGIN, 1, PLAIN, PLAIN)
        joint = joint_block((4, 4), joint, 1, (0, 3, 2, False, False, False), (0, 3, 1, True, False, False))
        told = self.check(style, style, joint, PLAIN, (0, 3, 0, False, True, False), 12)
        self.assertEqual(told, {"parted": ()})

    def test_against_all_texts(self):
        chance = random.Random(121)
        faces = some_faces()
        for _ in range(250):
            letters = chance.choice((1, 1, 1, 2))
            usable = [face for face in faces if len(face.letters) == letters]
            first_faces = chance.sample(usable, chance.randrange(1, 3))
            other_faces = first_faces if chance.random() < 0.6 else chance.sample(usable, chance.randrange(1, 3))
            one, two = style_of(*first_faces, length=chance.randrange(2, 5)), style_of(*other_faces, length=chance.randrange(2, 5))
            first = some_values(chance)
            joint = some_joint(chance, (one.length, two.length))
            self.check(one, two, joint, first, some_values(chance, first), 11 if letters == 1 else 7)

    def test_long_texts_leave_nothing_else(self):
        # With a measure of 1 each word is a line; no further count of lines leaves another joint standing.
        chance = random.Random(122)
        for _ in range(500):
            lengths = (chance.randrange(2, 5), chance.randrange(2, 5))
            one, two = style_of(FACE, length=lengths[0]), style_of(FACE, length=lengths[1])
            first = (0, 1) + some_values(chance)[2:]
            second = (0, 1) + some_values(chance, first)[2:]
            if first[5] or second[5]:
                continue
            joint = some_joint(chance, lengths)
            wanted = {}
            for count in range(40):
                wanted.setdefault(joint_block(lengths, joint, count, first, second), ("a",) * count)
            self.assertEqual(joint_texts(one, two, joint, first, second), wanted)

    def test_each_dict_is_new(self):
        style = style_of(FACE)
        joint_texts(style, style, "parted", PLAIN, PLAIN).clear()
        joint_texts(style, style, BEGIN, PLAIN, PLAIN).clear()
        self.assertEqual(joint_texts(style, style, "parted", PLAIN, PLAIN), {"parted": ()})
        self.assertEqual(len(joint_texts(style, style, BEGIN, PLAIN, PLAIN)), 2)

    def test_bad_style(self):
        one, two = style_of(FACE), style_of(Face([DOT, BAR]), Face([BAR, DOT]))
        for joint in (BEGIN, "parted"):
            self.check_error(BadStyle, {"field": "faces"}, joint_texts, one, two, joint, PLAIN, PLAIN)
            self.check_error(BadStyle, {"field": "faces"}, joint_texts, two, one, joint, PLAIN, PLAIN)

    def test_joint_standings_are_made_of_standings(self):
        style = style_of(FACE, length=3)
        for behind in joint_texts(style, style, BEGIN, (0, 1, 0, True, False, False), (0, 1, 0, False, False, False)):
            if behind != "parted":
                self.assertIn(behind[0], standings(3))
                self.assertIn(behind[2], standings(3))
