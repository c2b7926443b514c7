from helpers import BAR, DOT, HOOK, Case

from pressalike.errors import BadRule, BadStyle, PressError
from pressalike.faces import Face
from pressalike.rules import Rule
from pressalike.sheets import Sheet
from pressalike.styles import Style

SHEET = Sheet([Rule(1, space=1)])
ONE, OTHER, TWO = Face([DOT]), Face([BAR], 2), Face([DOT, BAR])
WRONG_SHEETS = (None, [], (), [Rule(1, space=1)], Rule(1, space=1), "1 : space=1", Sheet, 0)
WRONG_FACES = (
    None, ONE, (), [], [ONE] * 3, [ONE, TWO], (TWO, ONE), [None], [ONE, None], [None, ONE], [DOT], "a", {0: ONE}, iter([ONE]), Face,
)
WRONG_LENGTHS = (1, 5, 0, -2, 10 ** 20, True, False, None, "2", 2.0, (2,))
WRONG_MEASURES = (0, 7, -1, 10 ** 20, True, False, None, "3", 3.0, (3,))


class TestMaking(Case):
    def wrong(self, field, *args, **named):
        self.check_error(BadStyle, {"field": field}, Style, *args, **named)

    def test_example(self):
        told = Style(Sheet([]), [Face([[[(0, 0), (1, 0), (1, 1), (0, 1)]]])]).root_context()
        self.assertEqual(told, ('', '', '', 0, 3, False))

    def test_fields(self):
        for length in (2, 3, 4):
            for measure in range(1, 7):
                style = Style(SHEET, [ONE, OTHER], length=length, measure=measure)
                self.assertEqual((style.sheet, style.faces, style.length, style.measure), (SHEET, (ONE, OTHER), length, measure))
        style = Style(SHEET, (TWO,))
        self.assertEqual((style.faces, style.length, style.measure), ((TWO,), 2, 3))

    def test_length_and_measure_go_by_keyword(self):
        self.assertRaises(TypeError, Style, SHEET, [ONE], 2)

    def test_each_field_alone(self):
        for sheet in WRONG_SHEETS:
            self.wrong("sheet", sheet, [ONE])
        for faces in WRONG_FACES:
            self.wrong("faces", SHEET, faces)
        for length in WRONG_LENGTHS:
            self.wrong("length", SHEET, [ONE], length=length)
        for measure in WRONG_MEASURES:
            self.wrong("measure", SHEET, [ONE], measure=measure)

    def test_the_first_wrong_field(self):
        self.wrong("sheet", None, None, length=0, measure=0)
        self.wrong("sheet", [], [ONE], length=2, measure=7)
        self.wrong("sheet", [], [], length=2)
        self.wrong("faces", SHEET, [], length=5, measure=0)
        self.wrong("faces", SHEET, [ONE, TWO], measure=True)
        self.wrong("length", SHEET, [ONE], length=True, measure=0)

    def test_the_error(self):
        self.assertEqual(BadStyle.__bases__, (PressError,))
        self.assertEqual(BadRule.__bases__, (PressError,))

    def test_lists_that_are_changed_later(self):
        faces = [ONE, OTHER]
        style = Style(SHEET, faces)
        faces.pop()
        faces[0] = TWO
        self.assertEqual(style.faces, (ONE, OTHER))
        self.assertEqual(style.face(1), OTHER)

    def test_rules_that_are_changed_later(self):
        rules = [Rule(1, space=1)]
        style = Style(Sheet(rules), [ONE])
        rules[0] = Rule(2, space=2)
        self.assertEqual(style.sheet, SHEET)


class TestFaces(Case):
    def test_one_face(self):
        style = Style(SHEET, [ONE])
        self.assertEqual((style.face(0), style.face(1)), (ONE, ONE))

    def test_two_faces(self):
        style = Style(SHEET, [ONE, OTHER])
        self.assertEqual((style.face(0), style.face(1)), (ONE, OTHER))

    def test_the_same_face_twice_counts_as_two(self):
        style = Style(SHEET, [ONE, ONE])
        self.assertEqual((len(style.faces), style.face(0), style.face(1)), (2, ONE, ONE))
        self.assertFalse(style == Style(SHEET, [ONE]))

    def test_letters_of_all_numbers(self):
        outlines = [DOT, BAR, HOOK, DOT]
        for one in range(1, 5):
            for two in range(1, 5):
                faces = [Face(outlines[:one]), Face(outlines[::-1][:two], 0)]
                if one == two:
                    self.assertEqual(Style(SHEET, faces).faces, tuple(faces))
                else:
                    self.check_error(BadStyle, {"field": "faces"}, Style, SHEET, faces)


class TestContextAndSheet(Case):
    def test_root_context(self):
        for measure in range(1, 7):
            context = Style(SHEET, [ONE], measure=measure).root_context()
            self.assertEqual(context, ("", "", "", 0, measure, False))
            self.assertIs(type(context), tuple)
            self.assertIs(context[5], False)

    def test_with_sheet(self):
        style = Style(SHEET, [ONE, OTHER], length=4, measure=6)
        other = Sheet([])
        told = style.with_sheet(other)
        self.assertEqual((told.sheet, told.faces, told.length, told.measure), (other, (ONE, OTHER), 4, 6))
        self.assertEqual(style.sheet, SHEET)
        self.assertEqual(told.with_sheet(SHEET), style)

    def test_with_sheet_refuses(self):
        style = Style(SHEET, [ONE])
        for sheet in WRONG_SHEETS:
            self.check_error(BadStyle, {"field": "sheet"}, style.with_sheet, sheet)
        self.assertEqual(style, Style(SHEET, [ONE]))


class TestEqual(Case):
    def test_equal(self):
        one = Style(Sheet([Rule(1, space=1)]), [Face([DOT]), Face([BAR], 2)], length=3, measure=2)
        two = Style(Sheet((Rule(1, space=1),)), (Face([DOT]), Face([BAR], 2)), length=3, measure=2)
        self.assertTrue(one == two)
        self.assertFalse(one != two)

    def test_what_ends_it(self):
        style = Style(SHEET, [ONE], length=3, measure=2)
        others = [
            Style(Sheet([]), [ONE], length=3, measure=2), Style(SHEET, [OTHER], length=3, measure=2),
            Style(SHEET, [ONE, ONE], length=3, measure=2), Style(SHEET, [ONE], length=2, measure=2),
            Style(SHEET, [ONE], length=3, measure=3), Style(SHEET, [Face([DOT], 2)], length=3, measure=2),
        ]
        for other in others + [None, SHEET, ONE, (SHEET, (ONE,), 3, 2), 3]:
            self.assertFalse(style == other)
            self.assertTrue(style != other)

    def test_the_order_of_faces_counts(self):
        self.assertFalse(Style(SHEET, [ONE, OTHER]) == Style(SHEET, [OTHER, ONE]))


class TestRefusedRules(Case):
    """Rules and sheets that a style is made of ([4.2], [4.3])."""

    def test_rules(self):
        wrong = [
            dict(weight=10, space=1), dict(weight=True, space=1), dict(weight=1), dict(weight=1, space=3), dict(weight=1, measure=0),
            dict(weight=1, face=True), dict(weight=1, kept=1), dict(weight=1, kind="D", space=1), dict(weight=1, mark="xy", space=1),
            dict(weight=1, elder=None, space=1), dict(weight=1, length=2),
        ]
        for named in wrong:
            self.check_error(BadRule, {"place": None}, Rule, **named)

    def test_sheets(self):
        rule = Rule(1, space=1)
        self.check_error(BadRule, {"place": None}, Sheet, rule)
        self.check_error(BadRule, {"place": 1}, Sheet, [rule, None, None])
        self.check_error(BadRule, {"place": 6}, Sheet, [rule] * 7)
        self.check_error(BadRule, {"place": 6}, Sheet([rule] * 6).with_rule, rule)
        self.check_error(BadRule, {"place": 1}, Sheet([rule]).without, 1)
