import random

from helpers import Case
from plainly import Book, histories

from pressalike.errors import BadStanding
from pressalike.pages import Page
from pressalike.plainpages import plain_pages
from pressalike.standings import standings
from test_standings import WRONG


def page_of(length, *blocks):
    page = Page(length)
    for count, space, kept, is_due in blocks:
        page.block(count, space=space, kept=kept, page=is_due)
    return page


def line(kept=False, space=0):
    return 1, space, kept, False


def random_block(chance, chance_of_page=0.1):
    count = chance.choice([0, 1, 1, 1, 1, 2, 2, 3, 4, 5, 8])
    return count, chance.choice([0, 0, 1, 2]), chance.random() < 0.6, chance.random() < chance_of_page


class TestPage(Case):
    def check(self, page, book):
        """Compare all that a page tells with a plain book of the same blocks."""
        lines = book.lines()
        pending = book.pending()
        self.assertEqual(page.now, book.standing())
        self.assertEqual(page.pending, len(pending))
        self.assertEqual(page.finish(), lines)
        self.assertEqual(page.settled(), lines[:len(lines) - len(pending)])
        self.assertEqual(len(page), len(lines))
        self.assertIs(page.went_over, False)

    def test_examples(self):
        page = Page(2)
        page.block(1)
        page.block(1, kept=True)
        told = (page.now, page.pending, page.settled(), page.finish())
        self.assertEqual(told, (('kept', 2, 1), 1, [(True, 0)], [(True, 0), (False, 1)]))
        page.block(1)
        self.assertEqual(page.finish(), [(True, 0), (True, 0), (False, 1)])
        rest = Page.resumed(2, ("kept", 2, 1))
        rest.block(1)
        self.assertEqual((rest.went_over, rest.finish()), (True, [(False, 1)]))

    def test_the_beginning(self):
        for length in range(2, 10):
            page = Page(length)
            self.assertEqual((page.length, page.now, page.pending, page.settled(), page.finish()), (length, ("top", 0, 0), 0, [], []))
            self.assertEqual((len(page), page.went_over), (0, False))

    def test_what_is_returned(self):
        page = Page(3)
        self.assertEqual((page.begin(), page.block(2), page.block(0)), (None, None, None))
        self.assertRaises(TypeError, page.block, 1, 1)
        self.assertEqual([type(value) for value in page.finish()[0]], [bool, int])

    def test_what_was_told_may_be_changed(self):
        page = page_of(3, line(), line(True))
        page.finish().clear()
        page.settled().append(1)
        self.assertEqual((page.finish(), page.settled()), ([(True, 0), (False, 1)], [(True, 0)]))

    def test_space(self):
        self.assertEqual(page_of(5, line(), line(space=2), line(space=1)).finish(), [(True, 0), (False, 3), (True, 0)])
        self.assertEqual(page_of(5, line(), line(space=2), line()).finish(), [(True, 0), (False, 3), (False, 4)])
        self.assertEqual(page_of(4, (2, 2, False, False)).finish(), [(True, 0), (False, 1)])
        self.assertEqual(page_of(4, line(), (2, 1, False, False)).finish(), [(True, 0), (False, 2), (False, 3)])

    def test_begin(self):
        page = page_of(5, line())
        page.begin()
        page.begin()
        self.assertEqual((page.now, page.finish()), (("top", 0, 0), [(True, 0)]))
        page.block(1, space=2)
        self.assertEqual(page.finish(), [(True, 0), (True, 0)])
        page.begin()
        self.assertEqual((page.now, len(page)), (("top", 0, 0), 2))

    def test_page_true(self):
        page = page_of(5, line(), (1, 2, False, True))
        self.assertEqual(page.finish(), [(True, 0), (True, 0)])
        page.block(0, page=True)
        page.block(0, page=True, kept=True, space=1)
        self.assertEqual((page.now, len(page)), (("top", 0, 0), 2))
        page.block(0)
        page.block(1, page=True)
        self.assertEqual(page.finish(), [(True, 0), (True, 0), (True, 0)])

    def test_a_new_page_comes_whatever_is_barred(self):
        page = page_of(5, line(True), line(True))
        page.begin()
        page.block(1)
        self.assertEqual(page.finish(), [(True, 0), (False, 1), (True, 0)])

    def test_pending_lines_stay_ahead_of_a_new_page(self):
        page = page_of(3, line(), line(True))
        self.assertEqual((page.pending, page.now), (1, ("kept", 2, 1)))
        page.begin()
        self.assertEqual((page.pending, page.settled()), (0, [(True, 0), (False, 1)]))

    def test_barred_behind_a_kept_block(self):
        self.assertEqual(page_of(2, line(), line(True), line()).finish(), [(True, 0), (True, 0), (False, 1)])
        self.assertEqual(page_of(2, line(), line(False), line()).finish(), [(True, 0), (False, 1), (True, 0)])

    def test_blocks_without_lines_keep_nothing(self):
        self.assertEqual(page_of(2, line(), line(), (0, 2, True, False), line()).finish(), [(True, 0), (False, 1), (True, 0)])
        self.assertEqual(page_of(2, line(), line(True), (0, 2, False, False), line()).finish(), [(True, 0), (True, 0), (False, 1)])

    def test_barred_ahead_of_the_second_line(self):
        self.assertEqual(page_of(4, line(), line(), line(), (4, 0, False, False)).finish(),
                         [(True, 0), (False, 1), (False, 2), (True, 0), (False, 1), (False, 2), (False, 3)])
        self.assertEqual(page_of(4, line(), line(), (4, 0, False, False)).finish(),
                         [(True, 0), (False, 1), (False, 2), (False, 3), (True, 0), (False, 1)])

    def test_barred_ahead_of_the_last_line(self):
        self.assertEqual(page_of(3, line(), (3, 0, False, False)).finish(), [(True, 0), (True, 0), (False, 1), (False, 2)])
        self.assertEqual(page_of(4, line(), (4, 0, False, False)).finish(),
                         [(True, 0), (False, 1), (False, 2), (True, 0), (False, 1)])

    def test_a_break_at_the_last_place_that_is_not_barred(self):
        page = page_of(4, line(), line(), line(True), line(True))
        self.assertEqual((page.now, page.pending), (("kept", 4, 2), 2))
        page.block(1)
        self.assertEqual(page.finish(), [(True, 0), (False, 1), (True, 0), (False, 1), (False, 2)])
        self.assertEqual((page.now, page.pending, page.settled()), (("open", 3, 0), 0, page.finish()))

    def test_a_break_where_all_are_barred(self):
        page = page_of(3, line(True), line(True), line(True))
        self.assertEqual((page.now, page.pending), (("top", 0, 0), 0))
        page.block(1)
        self.assertEqual(page.finish(), [(True, 0), (False, 1), (False, 2), (True, 0)])
        page = page_of(3, line(True), line(True))
        self.assertEqual((page.now, page.pending), (("kept", 2, 0), 0))
        page.block(1, space=1)
        self.assertEqual(page.finish(), [(True, 0), (False, 1), (True, 0)])

    def test_lines_that_go_over_and_must_fit_again(self):
        page = page_of(3, line(), line(True), line(True))
        self.assertEqual(page.now, ("kept", 3, 2))
        page.block(1, space=1)
        self.assertEqual(page.finish(), [(True, 0), (True, 0), (False, 1), (True, 0)])
        page = page_of(3, line(), line(True), line(True))
        page.block(1, space=0)
        self.assertEqual(page.finish(), [(True, 0), (True, 0), (False, 1), (False, 2)])

    def test_lines_go_over_with_their_distances(self):
        page = page_of(5, line(), line(True), line(True, space=1), line())
        self.assertEqual(page.finish(), [(True, 0), (False, 1), (False, 3), (False, 4)])
        page = page_of(4, line(), line(True), line(True, space=1), line())
        self.assertEqual(page.finish(), [(True, 0), (True, 0), (False, 2), (False, 3)])

    def test_against_plain_books(self):
        chance = random.Random(71)
        for length in range(2, 10):
            for _ in range(150):
                page, book = Page(length), Book(length)
                settled = []
                for _ in range(chance.randrange(1, 12)):
                    block = random_block(chance)
                    page.block(block[0], space=block[1], kept=block[2], page=block[3])
                    book.block(*block)
                    self.check(page, book)
                    self.assertEqual(page.settled()[:len(settled)], settled)
                    settled = page.settled()
                    if chance.random() < 0.1:
                        page.begin()
                        book.is_due = True
                        self.check(page, book)

    def test_200_lines(self):
        for length in range(2, 10):
            book = Book(length, [line(), (200, 1, True, False), (2, 0, False, False)])
            self.check(page_of(length, line(), (200, 1, True, False), (2, 0, False, False)), book)


class TestResumed(Case):
    def test_what_a_resumed_page_tells_at_first(self):
        for length in range(2, 10):
            for standing in standings(length):
                page = Page.resumed(length, standing)
                self.assertEqual((page.length, page.now, page.pending, len(page)), (length, standing, 0, 0))
                self.assertEqual((page.settled(), page.finish()), ([], []))
                self.assertIs(page.went_over, None if standing[2] > 0 else False)

    def test_no_standing(self):
        for standing in WRONG:
            self.check_error(BadStanding, {"standing": standing}, Page.resumed, 3, standing)
        self.check_error(BadStanding, {"standing": ("kept", 3, 1)}, Page.resumed, 2, ("kept", 3, 1))

    def test_went_over(self):
        page = Page.resumed(4, ("kept", 3, 1))
        page.block(1, kept=True)
        self.assertIsNone(page.went_over)
        page.block(0, space=1)
        self.assertIsNone(page.went_over)
        page.block(1)
        self.assertIs(page.went_over, True)
        page = Page.resumed(4, ("kept", 3, 1))
        page.block(1)
        self.assertIs(page.went_over, False)
        for due in (Page.begin, lambda page: page.block(0, page=True), lambda page: page.block(1, page=True)):
            page = Page.resumed(4, ("kept", 4, 3))
            due(page)
            self.assertIs(page.went_over, False)

    def check(self, length, blocks, behind):
        """Go on behind these blocks with further ones; the whole plain book tells what must come."""
        book = Book(length, blocks)
        first, pending = book.many, book.pending()
        page = Page.resumed(length, book.standing())
        for block in behind:
            page.block(block[0], space=block[1], kept=block[2], page=block[3])
            book.block(*block)
            lines = book.lines()
            still = [number for number in book.pending() if number >= first]
            self.assertEqual(page.now, book.standing())
            self.assertEqual(page.finish(), lines[first:])
            self.assertEqual(page.pending, len(still))
            self.assertEqual(page.settled(), lines[first:len(lines) - len(still)])
            self.assertEqual(len(page), len(lines) - first)
            if not pending:
                self.assertIs(page.went_over, False)
            elif pending[0] in book.pending():
                self.assertIsNone(page.went_over)
            else:
                self.assertIs(page.went_over, lines[pending[0]] == (True, 0))

    def test_against_plain_books(self):
        chance = random.Random(72)
        for length in range(2, 7):
            for standing, rows in histories(length).items():
                for blocks in rows:
                    for _ in range(12):
                        behind = [random_block(chance, 0.05) for _ in range(chance.randrange(1, 6))]
                        self.check(length, blocks, behind)


class TestPlainPages(Case):
    def test_example(self):
        blocks = [(2, 0, False, False), (2, 2, False, False), (0, 0, False, True), (1, 1, False, False)]
        self.assertEqual(plain_pages(3, blocks), [(True, 0), (False, 1), (True, 0), (False, 1), (True, 0)])

    def test_no_lines(self):
        for blocks in ([], (), [(0, 2, True, True)], ((0, 0, False, False),) * 3):
            self.assertEqual(plain_pages(2, blocks), [])

    def test_same_as_page(self):
        chance = random.Random(73)
        for length in range(2, 10):
            for _ in range(300):
                blocks = [random_block(chance) for _ in range(chance.randrange(12))]
                told = plain_pages(length, blocks)
                self.assertEqual(told, page_of(length, *blocks).finish())
                self.assertEqual(told, Book(length, blocks).lines())
                self.assertEqual(plain_pages(length, tuple(blocks)), told)

    def test_400_lines(self):
        blocks = [(100, 2, True, False)] * 3 + [(50, 1, False, True)] * 2
        for length in range(2, 10):
            self.assertEqual(plain_pages(length, blocks), page_of(length, *blocks).finish())
            self.assertEqual(len(plain_pages(length, blocks)), 400)

    def test_what_is_passed_stays(self):
        blocks = [(2, 0, True, False), (1, 2, False, False)]
        plain_pages(2, blocks)
        self.assertEqual(blocks, [(2, 0, True, False), (1, 2, False, False)])
        self.assertEqual([type(value) for value in plain_pages(2, blocks)[0]], [bool, int])
