import random

from helpers import Case, random_rule

from pressalike.errors import BadLine
from pressalike.rules import Rule
from pressalike.sheets import Sheet
from pressalike.sheettext import read_sheet, write_rule, write_sheet


class TestWrite(Case):
    def test_example(self):
        sheet = Sheet([Rule(3, kind="A", above="x", space=1, kept=True), Rule(0, out=False)])
        self.assertEqual(write_sheet(sheet), '3 kind=A above=x : space=1 kept=yes\n0 : out=no')

    def test_a_whole_rule(self):
        rule = Rule(9, kind="A", mark="x", parent="B", above="y", elder="C",
                    face=1, measure=4, space=2, kept=True, page=False, out=True)
        line = "9 kind=A mark=x parent=B above=y elder=C : face=1 measure=4 space=2 kept=yes page=no out=yes"
        self.assertEqual(write_rule(rule), line)
        self.assertEqual(read_sheet(line), Sheet([rule]))

    def test_numbers_and_truths(self):
        self.assertEqual(write_rule(Rule(1, face=1, space=0, kept=True, page=False)), "1 : face=1 space=0 kept=yes page=no")
        self.assertEqual(write_rule(Rule(0, face=0, measure=1)), "0 : face=0 measure=1")

    def test_no_rule(self):
        self.assertEqual(write_sheet(Sheet([])), "")


class TestRead(Case):
    def wrong(self, number, text):
        self.check_error(BadLine, {"number": number}, read_sheet, text)

    def test_example(self):
        self.wrong(1, "1 : space=1\n2 elder=A kind=B : page=yes")

    def test_no_rule(self):
        self.assertEqual(read_sheet(""), Sheet([]))

    def test_back(self):
        chance = random.Random(16)
        for _ in range(400):
            sheet = Sheet([random_rule(chance) for _ in range(chance.randrange(7))])
            self.assertEqual(read_sheet(write_sheet(sheet)), sheet)
            for rule in sheet:
                told = read_sheet(write_rule(rule)).rules[0]
                self.assertEqual((told.weight, told.pattern, told.settings), (rule.weight, rule.pattern, rule.settings))
                self.assertEqual([type(value) for _, value in told.settings], [type(value) for _, value in rule.settings])

    def test_wrong_lines(self):
        lines = [
            "", " ", ":", "1", "1 :", "1 : ", ": space=1", " : space=1", "1 space=1", "1 kind=A space=1",
            # blanks
            " 1 : space=1", "1 : space=1 ", "1  : space=1", "1 :  space=1", "1 kind=A  : space=1", "1\t: space=1",
            "1 : space=1  kept=yes", "1: space=1", "1 :space=1", "1 : space= 1", "1 : space =1", "1 kind=A: space=1",
            # weights
            "10 : space=1", "-1 : space=1", "+1 : space=1", "01 : space=1", "x : space=1", "1.0 : space=1", "1 1 : space=1",
            "\u0661 : space=1", "kind=A 1 : space=1", "\u00b2 : space=1",
            # colons
            "1 : : space=1", "1 : space=1 :", "1 :: space=1", "1 ; space=1", "1 : kind=A : space=1",
            # patterns
            "1 kind=D : space=1", "1 kind= : space=1", "1 kind : space=1", "1 kind=a : space=1", "1 mark=xy : space=1",
            "1 mark=z : space=1", "1 mark=A : space=1", "1 kind=x : space=1", "1 above= : space=1", "1 Kind=A : space=1",
            "1 kind=A=A : space=1", "1 kind=AB : space=1", "1 space=1 : kind=A", "1 space=1 : space=1", "1 size=1 : space=1",
            # orders
            "1 mark=x kind=A : space=1", "1 elder=A above=x : space=1", "1 elder=A parent=A : space=1",
            "1 : space=1 face=1", "1 : kept=yes space=1", "1 : out=no page=no", "1 : space=1 measure=2",
            # a name twice
            "1 kind=A kind=A : space=1", "1 kind=A kind=B : space=1", "1 : space=1 space=1", "1 : space=1 space=2",
            "1 : kept=yes kept=no", "1 mark=x mark=y : space=1",
            # values
            "1 : face=2", "1 : face=-1", "1 : measure=0", "1 : measure=7", "1 : space=3", "1 : space=01", "1 : space=+1",
            "1 : space=yes", "1 : face=no", "1 : kept=1", "1 : kept=True", "1 : kept=Yes", "1 : kept=", "1 : space=",
            "1 : space", "1 : =1", "1 : kept=yes=yes", "1 : page=0", "1 : out=none", "1 : size=1", "1 : kind=A",
            "1 : space=\u0661", "1 : space=1 kind=A", "1 : space=1\r", "1 : space=1\u2028", "1 : space=1\x0b",
        ]
        for line in lines:
            if line != "":
                self.wrong(0, line)
            self.wrong(0, line + "\n1 : space=1")
            self.wrong(1, "1 : space=1\n" + line)
            self.wrong(1, "1 : space=1\n" + line + "\n1 : space=1\n" + line)

    def test_line_feeds(self):
        self.wrong(0, "\n")
        self.wrong(1, "1 : space=1\n")
        self.wrong(0, "\n1 : space=1")
        self.wrong(1, "1 : space=1\n\n1 : space=1")

    def test_line_six(self):
        line = "1 : space=1"
        self.assertEqual(read_sheet("\n".join([line] * 6)), Sheet([Rule(1, space=1)] * 6))
        self.wrong(6, "\n".join([line] * 7))
        self.wrong(6, "\n".join([line] * 8))
        self.wrong(6, "\n".join([line] * 6) + "\n")
        self.wrong(6, "\n".join([line] * 6 + ["no"]))
        self.wrong(5, "\n".join([line] * 5 + ["no", line]))
