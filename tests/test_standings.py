import itertools
import random

from helpers import Case
from plainly import Book, histories

from pressalike.errors import BadStanding, PressError
from pressalike.pages import Page
from pressalike.standings import after_block, all_after, count_class, standings

TOP = ("top", 0, 0)
SETTINGS = [dict(space=space, kept=kept, page=page) for space in (0, 1, 2) for kept in (False, True) for page in (False, True)]
WRONG = (
    None, "top", 0, (), ("top",), ("top", 0), ("top", 0, 0, 0), ["top", 0, 0], ("top", 1, 0), ("top", 0, 1), ("open", 0, 0), ("open", 3, 0),
    ("open", 1, 1), ("open", -1, 0), ("kept", 0, 0), ("kept", 3, 0), ("kept", 1, 1), ("kept", 4, 1), ("kept", 3, 3), ("kept", 2, -1),
    ("Top", 0, 0), ("", 0, 0), (0, 0, 0), ("top", False, 0), ("top", 0, False), ("open", True, 0), ("kept", True, 0), ("kept", 2, True),
    ("kept", 2, False), ("open", 1, None), ("open", "1", 0), ("open", 1.0, 0), ("kept", [1], 0), (("top", 0, 0),), (None, 0, 0), {}, b"top",
    ("kept", 10 ** 20, 1), True,
)


class TestStandings(Case):
    def test_example(self):
        self.assertEqual(standings(2), [('kept', 1, 0), ('kept', 2, 1), ('open', 1, 0), ('top', 0, 0)])

    def test_all_that_blocks_leave(self):
        for length in range(2, 10):
            found, todo = {TOP: True}, [TOP]
            while todo:
                one = todo.pop()
                for count, settings in itertools.product(range(length + 4), SETTINGS):
                    told = after_block(length, one, count, **settings)
                    if told not in found:
                        found[told] = True
                        todo.append(told)
            self.assertEqual(standings(length), sorted(found))

    def test_all_that_plain_books_leave(self):
        for length in (2, 3, 4):
            self.assertEqual(standings(length), sorted(histories(length)))

    def test_each_list_is_new(self):
        standings(3).clear()
        self.assertEqual(len(standings(3)), 8)


class TestCountClass(Case):
    def test_classes(self):
        for length in range(2, 10):
            for count in range(60):
                wanted = count if count < 4 else 4 + (count - 4) % length
                self.assertEqual(count_class(length, count), wanted)
            self.assertEqual({count_class(length, count) for count in range(60)}, set(range(length + 4)))
        self.assertEqual(count_class(3, 10 ** 29), 4 + (10 ** 29 - 4) % 3)
        self.assertEqual(count_class(7, 10 ** 30 - 1), 4 + (10 ** 30 - 5) % 7)

    def test_a_count_does_what_its_class_does(self):
        for length in (2, 3, 4, 9):
            for one, count, settings in itertools.product(standings(length), range(3 * length + 6), SETTINGS):
                page = Page.resumed(length, one)
                page.block(count, **settings)
                self.assertEqual(page.now, after_block(length, one, count_class(length, count), **settings))


class TestAfterBlock(Case):
    def test_examples(self):
        told = (after_block(3, ("open", 1, 0), 1, kept=True), after_block(2, ("open", 1, 0), 10 ** 20))
        self.assertEqual(told, (('kept', 2, 1), ('top', 0, 0)))

    def test_what_is_left_out_of_the_call(self):
        for length in (2, 3, 4):
            for one, count in itertools.product(standings(length), range(8)):
                plain = after_block(length, one, count)
                self.assertEqual(plain, after_block(length, one, count, space=0, kept=False, page=False))
                self.assertEqual(plain, after_block(length, one, count, space=0))
                for name, value in (("space", 1), ("space", 2), ("kept", True), ("page", True)):
                    settings = dict(space=0, kept=False, page=False)
                    settings[name] = value
                    self.assertEqual(after_block(length, one, count, **{name: value}), after_block(length, one, count, **settings))
        self.assertRaises(TypeError, after_block, 3, TOP, 1, 1)

    def test_blocks_without_lines(self):
        for length in range(2, 10):
            for one, settings in itertools.product(standings(length), SETTINGS):
                wanted = TOP if settings["page"] else one
                self.assertEqual(after_block(length, one, 0, **settings), wanted)

    def test_against_plain_books(self):
        for length in range(2, 6):
            found = histories(length)
            for one, count, settings in itertools.product(found, range(length + 8), SETTINGS):
                for blocks in found[one]:
                    block = (count, settings["space"], settings["kept"], settings["page"])
                    self.assertEqual(after_block(length, one, count, **settings), Book(length, blocks + (block,)).standing())

    def test_against_long_plain_books(self):
        chance = random.Random(61)
        for length in range(2, 10):
            for _ in range(60):
                standing, book = TOP, Book(length)
                for _ in range(12):
                    count, space = chance.choice([0, 1, 1, 1, 2, 2, 3, 4, 5, 11]), chance.randrange(3)
                    kept, page = chance.random() < 0.6, chance.random() < 0.1
                    standing = after_block(length, standing, count, space=space, kept=kept, page=page)
                    book.block(count, space, kept, page)
                    self.assertEqual(standing, book.standing())

    def test_counts_of_30_digits(self):
        many = 10 ** 30 - 1
        for length in range(2, 10):
            same = 4 + (many - 4) % length + 3 * length
            for one, settings in itertools.product(standings(length), SETTINGS):
                self.assertEqual(after_block(length, one, many, **settings), after_block(length, one, same, **settings))

    def test_no_standing(self):
        for standing in WRONG:
            self.check_error(BadStanding, {"standing": standing}, after_block, 3, standing, 1)
            self.check_error(BadStanding, {"standing": standing}, after_block, 3, standing, 0, page=True)
        for standing in (("kept", 3, 1), ("kept", 2, 0), ("open", 2, 0)):
            self.check_error(BadStanding, {"standing": standing}, after_block, 2, standing, 1)
            self.assertIn(after_block(3, standing, 1), standings(3))
        self.assertEqual(BadStanding.__bases__, (PressError,))

    def test_the_error_has_the_very_value(self):
        wrong = ["top", 0, 0]
        try:
            after_block(3, wrong, 1)
            self.fail()
        except BadStanding as error:
            self.assertIs(error.standing, wrong)


class TestAllAfter(Case):
    def test_example(self):
        self.assertEqual(all_after(2, TOP), [(('open', 1, 0), 1), (('top', 0, 0), 2)])

    def test_all(self):
        for length in (2, 3, 4, 5, 9):
            for one, settings in itertools.product(standings(length), SETTINGS):
                wanted = {}
                for count in range(1, 3 * length + 8):
                    wanted.setdefault(after_block(length, one, count, **settings), count)
                self.assertEqual(all_after(length, one, **settings), sorted(wanted.items()))

    def test_what_is_left_out_of_the_call(self):
        for one in standings(4):
            self.assertEqual(all_after(4, one), all_after(4, one, space=0, kept=False, page=False))
            self.assertEqual(all_after(4, one, kept=True), all_after(4, one, space=0, kept=True, page=False))

    def test_no_standing(self):
        for standing in WRONG:
            self.check_error(BadStanding, {"standing": standing}, all_after, 3, standing)
            self.check_error(BadStanding, {"standing": standing}, all_after, 3, standing, page=True)

    def test_each_list_is_new(self):
        all_after(2, TOP).clear()
        self.assertEqual(len(all_after(2, TOP)), 2)
