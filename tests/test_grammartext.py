import random

from helpers import Case
from test_grammar import G, random_rows

from pressalike.errors import BadGrammar, BadLine
from pressalike.grammar import Grammar
from pressalike.grammartext import read_grammar, write_grammar

TEXT = "root A\nA 2 0>Bx>1 1>C>0 ends 1\nB words\nC 1 0>C>0 ends"


class TestWrite(Case):
    def test_example(self):
        self.assertEqual(write_grammar(G), TEXT)

    def test_the_order(self):
        steps = [(2, "A", "", 0), (0, "C", "", 1), (0, "B", "xy", 1), (0, "B", "y", 2), (0, "B", "x", 1), (0, "B", "", 0)]
        grammar = Grammar("C", {"C": (3, steps, [2, 0, 2]), "B": None, "A": (1, [], [])})
        told = "root C\nA 1 ends\nB words\nC 3 0>B>0 0>Bx>1 0>Bxy>1 0>By>2 0>C>1 2>A>0 ends 0 2"
        self.assertEqual(write_grammar(grammar), told)

    def test_the_smallest(self):
        self.assertEqual(write_grammar(Grammar("B", {"B": None})), "root B\nB words")


class TestRead(Case):
    def wrong(self, text, number):
        self.check_error(BadLine, {"number": number}, read_grammar, text)

    def test_back(self):
        self.assertEqual(read_grammar(TEXT), G)
        chance = random.Random(13)
        for _ in range(300):
            grammar = Grammar("A", random_rows(chance))
            self.assertEqual(read_grammar(write_grammar(grammar)), grammar)

    def test_any_order(self):
        text = "root A\nC 1 0>C>0 ends\nB words\nA 2 1>C>0 0>Bx>1 ends 1 1"
        self.assertEqual(read_grammar(text), G)
        one = read_grammar("root A\nA 3 ends 2 0 2 1")
        self.assertEqual(one, Grammar("A", {"A": (3, [], [0, 1, 2])}))

    def test_first_lines(self):
        for first in ("", "root", "root ", "root D", "root AB", "root a", "Root A", "root  A", " root A", "root A ",
                      "root A B", "A", "rootA", "root\tA", "A 1 ends", "A words", "root ends"):
            self.wrong(first, 0)
            self.wrong(first + "\nA words", 0)
        self.wrong("\nroot A\nA words", 0)

    def test_wrong_lines(self):
        lines = [
            "", " ", "B", "B ", "D words", "B Words", "B words ", " B words", "B  words", "B words words", "BB words",
            "b words", "words", "B 1", "B ends", "B ends 0", "B 0 ends", "B 4 ends", "B 10 ends", "B +1 ends", "B -1 ends",
            "B x ends", "B 1  ends", "B 1 ends ", " B 1 ends", "B 1 ends  0", "B 1 ends 3", "B 1 ends 00", "B 1 ends x",
            "B 1 ends ends", "B 1 ends 0 ends", "B 1 0>B>0", "B 1 0 ends", "B 1 ends 0>B>0", "B 1 0>B ends",
            "B 1 0>>0 ends", "B 1 >B>0 ends", "B 1 0>B> ends", "B 1 0>D>0 ends", "B 1 0>Byx>0 ends", "B 1 0>Bz>0 ends",
            "B 1 0>BB>0 ends", "B 1 0>x>0 ends", "B 1 3>B>0 ends", "B 1 0>B>3 ends", "B 1 00>B>0 ends", "B 1 0>B>00 ends",
            "B 1 0>B>0>0 ends", "B 1 0 >B>0 ends", "B 1 0>B>0 Ends", "B 1 0>B>0,ends", "B 1 words ends", "B 1 words",
            "B words 1 ends", "root A", "root B", "B 1 \u0660>B>0 ends", "B \u0661 ends", "B 1 ends \u0660", "B\t1 ends",
        ]
        for line in lines:
            self.wrong("root A\nA words\n" + line, 2)
            self.wrong("root A\n" + line + "\nA words", 1)
            self.wrong("root A\n" + line + "\n" + line, 1)

    def test_line_feeds(self):
        self.wrong("root A\nA words\n", 2)
        self.wrong("root A\n\nA words", 1)
        self.wrong("root A\n", 1)
        self.wrong("root A\r\nA words", 0)
        self.wrong("root A\nA words\r", 1)

    def test_a_kind_twice(self):
        self.wrong("root A\nA words\nA words", 2)
        self.wrong("root A\nB words\nA words\nB 1 ends", 3)
        self.wrong("root A\nB words\nB words\nC", 2)

    def test_then_as_a_grammar(self):
        told = [
            ("root A", "A"), ("root A\nB words", "A"), ("root C\nA 1 0>B>0 ends", "C"),
            ("root A\nA 1 0>B>0 ends", "A"), ("root A\nA 1 1>A>0 ends", "A"), ("root A\nA 1 0>A>1 ends", "A"),
            ("root A\nA 2 ends 2", "A"), ("root A\nA words\nB 1 0>A>0 0>A>0 ends", "B"),
            ("root A\nC 1 ends 1\nB 1 ends 1\nA words", "B"),
        ]
        for text, kind in told:
            self.check_error(BadGrammar, {"kind": kind}, read_grammar, text)

    def test_lines_come_before_the_grammar(self):
        self.wrong("root A\nB 1 1>B>1 ends\nC", 2)
        self.wrong("root C\nA 1 ends 2\nA words", 2)
