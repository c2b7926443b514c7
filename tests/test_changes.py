import itertools
import random

from helpers import DOT, Case, random_rule, random_style

from pressalike.changes import all_lots, changed, checked_changes
from pressalike.errors import BadChange
from pressalike.faces import Face
from pressalike.rules import Rule
from pressalike.sheets import Sheet
from pressalike.sheettext import write_sheet
from pressalike.styles import Style

FACE = Face([DOT])
ONE, TWO, THREE = Rule(1, space=1), Rule(2, kind="A", space=2), Rule(3, page=True)


def style_of(*rules, **named):
    return Style(Sheet(rules), [FACE], **named)


def random_changes(chance, style):
    """A row of changes of the style."""
    places = chance.sample(range(len(style.sheet)), chance.randrange(len(style.sheet) + 1))[:3]
    row = [("drop", place) if chance.random() < 0.5 else ("set", place, random_rule(chance)) for place in places]
    row += [("add", random_rule(chance)) for _ in range(chance.randrange(7 - len(style.sheet)))][:2]
    row += [("length", chance.randrange(2, 5))] * chance.randrange(2) + [("measure", chance.randrange(1, 7))] * chance.randrange(2)
    chance.shuffle(row)
    return row[:6]


def plain_changed(style, changes, back):
    """The style with the changes but those in the lot, by [11.2]."""
    kept = [change for place, change in enumerate(changes) if place not in back]
    rules = []
    for place, rule in enumerate(style.sheet):
        told = [change for change in kept if change[0] in ("set", "drop") and change[1] == place]
        rules += [rule] if not told else list(told[0][2:])
    rules += [change[1] for change in kept if change[0] == "add"]
    numbers = {change[0]: change[1] for change in kept if change[0] in ("length", "measure")}
    return Style(Sheet(rules), style.faces, length=numbers.get("length", style.length), measure=numbers.get("measure", style.measure))


class TestCheckedChanges(Case):
    def refused(self, place, style, changes):
        self.check_error(BadChange, {"place": place}, checked_changes, style, changes)
        self.check_error(BadChange, {"place": place}, changed, style, changes, ("nothing",))

    def test_example(self):
        style = Style(Sheet([Rule(1, space=1), Rule(2, kind="A", space=2)]), [FACE])
        self.check_error(BadChange, {"place": 1}, checked_changes, style, [("drop", 1), ("set", 1, Rule(0, out=True))])

    def test_each_kind(self):
        style = style_of(ONE, TWO)
        row = [("set", 1, THREE), ("drop", 0), ("add", THREE), ("length", 4), ("measure", 6), ("add", THREE)]
        self.assertEqual(checked_changes(style, row), tuple(row))
        self.assertIs(type(checked_changes(style, row)), tuple)
        self.assertEqual(checked_changes(style, tuple(row)), tuple(row))
        self.assertEqual(checked_changes(style, []), ())
        for change in [("length", number) for number in (2, 3, 4)] + [("measure", number) for number in range(1, 7)]:
            self.assertEqual(checked_changes(style, [change]), (change,))

    def test_no_row(self):
        for wrong in (None, "drop", {0: ("drop", 0)}, 5, Rule(1, space=1)):
            self.refused(None, style_of(ONE), wrong)

    def test_what_is_no_change(self):
        style = style_of(ONE, TWO)
        for wrong in (
            ["drop", 0], "drop", None, (), ("drop",), ("drop", 0, ONE), ("drop", 0, 0), ("set", 0), ("set", 0, ONE, ONE), ("set", ONE), ("add",), ("add", ONE, TWO),
            ("add", 0), ("add", 0, ONE), ("length",), ("length", 2, 3), ("take", 0), ("Drop", 0), (0, "drop"), ("", 0), (None, 0), ("space", 1),
        ):
            self.refused(0, style, [wrong])
            self.refused(1, style, (("length", 3), wrong))

    def test_out_of_range(self):
        style = style_of(ONE, TWO)
        for wrong in (
            ("drop", 2), ("drop", -1), ("drop", True), ("drop", "0"), ("drop", None), ("set", 2, ONE), ("set", -1, ONE), ("set", False, ONE),
            ("set", 0, "1 : space=1"), ("set", 0, None), ("set", 0, Sheet([])), ("add", None), ("add", "1 : space=1"),
            ("length", 1), ("length", 5), ("length", True), ("length", "3"), ("measure", 0), ("measure", 7), ("measure", True), ("measure", None),
        ):
            self.refused(0, style, [wrong])
            self.refused(2, style, [("add", ONE), ("measure", 1) if wrong[0] != "measure" else ("length", 2), wrong])

    def test_touched_twice(self):
        style = style_of(ONE, TWO)
        twice = [("drop", 0), ("set", 0, ONE), ("length", 2), ("length", 3), ("measure", 2), ("measure", 3)]
        for one, two in itertools.product(twice, repeat=2):
            touches = one[0] == two[0] or {one[0], two[0]} == {"drop", "set"}
            if touches:
                self.refused(1, style, [one, two])
                self.refused(2, style, [one, ("add", ONE), two])
            else:
                self.assertEqual(len(checked_changes(style, [one, two])), 2)
        self.assertEqual(len(checked_changes(style, [("drop", 0), ("set", 1, ONE)])), 2)

    def test_a_rule_too_many(self):
        for many in range(7):
            style = style_of(*[ONE] * many)
            room = [("add", TWO)] * (6 - many)
            self.assertEqual(len(checked_changes(style, room)), 6 - many)
            if many > 0:
                self.refused(6 - many, style, room + [("add", TWO)])
                # Rules that are dropped or replaced count, too.
                self.refused(7 - many if many > 1 else 6, style, [("drop", 0)] + room + [("add", TWO)])

    def test_a_seventh_change(self):
        style = style_of(ONE, TWO)
        row = [("add", ONE), ("add", ONE), ("drop", 0), ("set", 1, ONE), ("length", 2), ("measure", 2)]
        self.assertEqual(len(checked_changes(style, row)), 6)
        for more in (("add", ONE), ("drop", 0), None):
            self.refused(6, style, row + [more])
        self.refused(2, style, row[:2] + [None] + row[3:] + [("add", ONE)])

    def test_the_first_wrong_place(self):
        style = style_of(ONE)
        self.refused(1, style, [("drop", 0), ("drop", 0), None, ("length", 9)])
        self.refused(0, style, [None, ("drop", 0), ("drop", 0)])


class TestChanged(Case):
    def test_examples(self):
        style = Style(Sheet([Rule(1, space=1), Rule(2, kind="A", space=2)]), [FACE])
        changes = [("add", Rule(3, page=True)), ("drop", 0), ("length", 4)]
        self.assertEqual(write_sheet(changed(style, changes).sheet), '2 kind=A : space=2\n3 : page=yes')
        told = changed(style, changes, (0, 2))
        self.assertEqual((write_sheet(told.sheet), told.length), ('2 kind=A : space=2', 2))

    def test_places_are_those_of_the_own_sheet(self):
        style = style_of(ONE, TWO, THREE)
        told = changed(style, [("drop", 0), ("set", 2, ONE), ("drop", 1), ("add", TWO)])
        self.assertEqual(told.sheet, Sheet([ONE, TWO]))
        self.assertEqual(changed(style, [("set", 2, ONE), ("set", 0, THREE)]).sheet, Sheet([THREE, TWO, ONE]))

    def test_all_else_stays(self):
        faces = [FACE, Face([DOT], 2)]
        style = Style(Sheet([ONE]), faces, length=3, measure=5)
        told = changed(style, [("drop", 0)])
        self.assertEqual(told, Style(Sheet([]), faces, length=3, measure=5))
        self.assertEqual(changed(style, []), style)
        self.assertEqual(changed(style, [("length", 3), ("set", 0, ONE)]), style)
        self.assertEqual(changed(style, [("measure", 1)]).measure, 1)

    def test_lots_in_any_order(self):
        chance = random.Random(341)
        for _ in range(300):
            style = random_style(chance)
            row = random_changes(chance, style)
            lot = [chance.randrange(len(row)) for _ in range(chance.randrange(5))] if row else []
            self.assertEqual(changed(style, row, lot), plain_changed(style, row, lot))
            self.assertEqual(changed(style, row, tuple(lot)), changed(style, row, sorted(set(lot))))
            self.assertEqual(changed(style, row, list(range(len(row)))), style)

    def test_what_is_no_place(self):
        style, row = style_of(ONE), [("drop", 0), ("length", 3)]
        for wrong in (2, -1, True, False, None, "0", (0,)):
            self.check_error(BadChange, {"place": wrong}, changed, style, row, [0, wrong, 99])
            self.check_error(BadChange, {"place": wrong}, changed, style, row, (wrong, 0))
        self.check_error(BadChange, {"place": 0}, changed, style, [], (0,))

    def test_nothing_is_changed(self):
        style, row = style_of(ONE), [("drop", 0), ("length", 3)]
        back = [1, 0, 1]
        changed(style, row, back)
        self.assertEqual((style, row, back), (style_of(ONE), [("drop", 0), ("length", 3)], [1, 0, 1]))


class TestAllLots(Case):
    def test_example(self):
        self.assertEqual(list(all_lots(2)), [(), (0,), (1,), (0, 1)])

    def test_in_their_order(self):
        for count in range(7):
            told = list(all_lots(count))
            wanted = [lot for many in range(count + 1) for lot in itertools.combinations(range(count), many)]
            self.assertEqual(told, wanted)
            self.assertEqual(len(told), 2 ** count)
