import itertools
import random

from helpers import BAR, DOT, FOOT, FULL, HOOK, Case, outline_with, some_faces

from pressalike.errors import BadFace
from pressalike.faces import Face
from pressalike.wordkinds import (
    joint_kinds,
    joint_states,
    least_unlike,
    told_width,
    word_kinds,
    word_states,
)
from pressalike.words import stamps, width, words_up_to

FACE = Face([DOT, BAR])


def plain_told(cap, number):
    return number if number <= cap else cap + 1


def plain_joint(one, two, cap, most):
    """All joint states of words of up to `most` letters, each with its least word."""
    found = {}
    for word in words_up_to(one, most):
        alike = stamps(one, word) == stamps(two, word)
        state = (word[-1], plain_told(cap, width(one, word)), plain_told(cap, width(two, word)), alike)
        found.setdefault(state, word)
    return found


def plain_rows(found):
    return sorted(state + (word,) for state, word in found.items())


def plain_kinds(found):
    least = {}
    for state, word in found.items():
        kind = state[1:]
        if kind not in least or (len(word), word) < (len(least[kind]), least[kind]):
            least[kind] = word
    return sorted(kind + (word,) for kind, word in least.items())


class TestToldWidth(Case):
    def test_examples(self):
        self.assertEqual([told_width(3, 3), told_width(3, 9)], [3, 4])

    def test_edges(self):
        self.assertEqual([told_width(1, many) for many in (1, 2, 3)], [1, 2, 2])
        self.assertEqual([told_width(12, many) for many in (11, 12, 13, 14)], [11, 12, 13, 13])


class TestStates(Case):
    def test_examples(self):
        states = [('a', 1, 'a'), ('a', 3, 'aa'), ('a', 5, 'ba'), ('b', 3, 'b'), ('b', 5, 'ab')]
        self.assertEqual(word_states(FACE, 4), states)
        self.assertEqual(word_kinds(FACE, 4), [(1, 'a'), (3, 'b'), (5, 'ab')])

    def test_caps_up_to_twelve(self):
        for face in (Face([DOT]), FACE, Face([FULL, HOOK], 0), Face([FOOT, DOT], 2)):
            for cap in range(1, 13):
                self.check_states(face, cap)

    def check_states(self, face, cap):
        rows = word_states(face, cap)
        self.assertEqual(rows, sorted(rows))
        self.assertEqual(len({row[:2] for row in rows}), len(rows))
        by_state = {row[:2]: row[2] for row in rows}
        for (last, told), word in by_state.items():
            self.assertEqual((word[-1], plain_told(cap, width(face, word))), (last, told))
            self.assertLessEqual(len(word), cap + 1)
        self.check_closed(face, cap, by_state)
        kinds = word_kinds(face, cap)
        self.assertEqual([kind[0] for kind in kinds], sorted({row[1] for row in rows}))
        for told, word in kinds:
            words = [row[2] for row in rows if row[1] == told]
            self.assertEqual(word, min(words, key=lambda text: (len(text), text)))

    def check_closed(self, face, cap, by_state):
        for letter in face.letters:
            self.assertIn((letter, plain_told(cap, face.step(letter))), by_state)
        for last, told in by_state:
            for letter in face.letters:
                wide = plain_told(cap, told + face.gap(last, letter) + face.step(letter))
                self.assertIn((letter, wide), by_state)

    def test_none_comes_ahead_of_a_listed_word(self):
        for face in some_faces():
            for cap in (1, 2, 3, 4):
                most = cap + 1 if len(face.letters) < 4 else min(cap + 1, 4)
                found = {}
                for word in words_up_to(face, most):
                    found.setdefault((word[-1], plain_told(cap, width(face, word))), word)
                rows = [row for row in word_states(face, cap) if len(row[2]) <= most]
                self.assertEqual(rows, sorted(state + (word,) for state, word in found.items()))

    def test_longer_words_come_to_listed_states(self):
        chance = random.Random(3)
        for face in some_faces():
            for cap in (2, 7, 12):
                states = {row[:2] for row in word_states(face, cap)}
                for _ in range(40):
                    word = "".join(chance.choice(face.letters) for _ in range(chance.randrange(1, 41)))
                    self.assertIn((word[-1], plain_told(cap, width(face, word))), states)

    def test_a_state_that_only_the_longest_word_has(self):
        # With steps of 1 and no gap the width grows by one letter after another up to the cap and one.
        face = Face([outline_with(["#...", "....", "....", "...."])], 0)
        rows = word_states(face, 12)
        self.assertEqual(rows, [("a", many, "a" * many) for many in range(1, 14)])

    def test_lists_are_new(self):
        word_states(FACE, 4).clear()
        word_kinds(FACE, 4).clear()
        self.assertEqual(len(word_states(FACE, 4)), 5)
        self.assertEqual(len(word_kinds(FACE, 4)), 3)


class TestJoint(Case):
    def test_example(self):
        told = joint_kinds(FACE, Face([DOT, DOT]), 4)
        self.assertEqual(told, [
            (1, 1, True, 'a'), (3, 1, False, 'b'), (3, 3, True, 'aa'), (5, 3, False, 'ab'),
            (5, 5, False, 'aab'), (5, 5, True, 'aaa'),
        ])

    def test_against_all_words(self):
        faces = [face for face in some_faces() if len(face.letters) in (2, 3)]
        for one, two in itertools.product(faces, repeat=2):
            if one.letters == two.letters:
                for cap in (1, 2, 3):
                    found = plain_joint(one, two, cap, 5)
                    more = plain_joint(one, two, cap, 6) if len(one.letters) == 2 else found
                    self.assertEqual(found, more)
                    self.assertEqual(joint_states(one, two, cap), plain_rows(found))
                    self.assertEqual(joint_kinds(one, two, cap), plain_kinds(found))

    def test_equal_faces(self):
        for cap in (1, 5, 12):
            rows = joint_states(FACE, Face([DOT, BAR]), cap)
            self.assertEqual([(row[0], row[1], row[4]) for row in rows], word_states(FACE, cap))
            self.assertTrue(all(row[1] == row[2] and row[3] is True for row in rows))
            kinds = joint_kinds(FACE, Face([DOT, BAR]), cap)
            self.assertEqual([(row[0], row[3]) for row in kinds], word_kinds(FACE, cap))

    def test_unlike_gaps_alone(self):
        near, far = Face([DOT], 0), Face([DOT], 2)
        rows = joint_states(near, far, 3)
        self.assertEqual(rows, plain_rows(plain_joint(near, far, 3, 6)))
        self.assertIn(("a", 1, 1, True, "a"), rows)
        self.assertIn(("a", 2, 4, False, "aa"), rows)

    def test_alike_is_a_bool(self):
        for row in joint_states(FACE, Face([DOT, DOT]), 4):
            self.assertIs(type(row[3]), bool)

    def test_once_unlike_always_unlike(self):
        # The widths are equal again, but the first stamps differ.
        one, two = Face([DOT, BAR]), Face([BAR, DOT])
        rows = joint_kinds(one, two, 8)
        self.assertIn((5, 5, False, "ab"), rows)
        self.assertFalse(any(row[2] for row in rows))

    def test_other_letters(self):
        one, three = Face([DOT]), Face([DOT] * 3)
        for call in (joint_states, joint_kinds):
            self.check_error(BadFace, {"count": 3}, call, one, three, 4)
            self.check_error(BadFace, {"count": 1}, call, three, one, 4)
        self.check_error(BadFace, {"count": 3}, least_unlike, one, three)
        self.check_error(BadFace, {"count": 1}, least_unlike, three, one)


class TestLeastUnlike(Case):
    def test_examples(self):
        told = [
            least_unlike(FACE, Face([DOT, DOT])),
            least_unlike(Face([DOT], 0), Face([DOT], 1)),
            least_unlike(FACE, FACE),
        ]
        self.assertEqual(told, ['b', 'aa', None])

    def test_unlike_faces_with_alike_stamps(self):
        # Three blanks stand in each common row without any gap, so the distance does not matter.
        wide = outline_with(["#...", "....", "....", "...#"])
        near, far = Face([wide], 0), Face([wide], 2)
        self.assertNotEqual(near, far)
        self.assertIsNone(least_unlike(near, far))
        self.assertEqual([row[2] for row in joint_kinds(near, far, 9)], [True] * 3)

    def test_a_letter_comes_before_a_pair(self):
        one, two = Face([DOT, BAR], 0), Face([DOT, FOOT], 2)
        self.assertEqual(least_unlike(one, two), "b")

    def test_the_first_pair_in_order(self):
        one, two = Face([DOT, FOOT], 0), Face([DOT, FOOT], 2)
        self.assertEqual(least_unlike(one, two), "aa")

    def test_against_all_words(self):
        faces = some_faces()
        for one, two in itertools.product(faces, repeat=2):
            if one.letters == two.letters:
                words = [w for w in words_up_to(one, 3) if stamps(one, w) != stamps(two, w)]
                self.assertEqual(least_unlike(one, two), words[0] if words else None)
