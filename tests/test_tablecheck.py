import random

from helpers import BAR, DOT, Case, random_grammar, random_style

from pressalike.errors import BadGrammar, BadStyle
from pressalike.faces import Face
from pressalike.grammar import Grammar
from pressalike.joint import alike_at_end, joint_begin, joint_page
from pressalike.jointtext import joint_texts
from pressalike.rules import Rule
from pressalike.sheets import Sheet
from pressalike.styles import Style
from pressalike.tablecheck import flaw
from pressalike.verdict import compare_styles

FACE = Face([DOT])
BEGIN = joint_begin()
FLAT = Grammar("A", {"A": (1, [(0, "B", "", 0)], [0]), "B": None})
NESTED = Grammar("A", {"A": (2, [(0, "A", "x", 1), (0, "B", "", 0), (1, "B", "y", 0)], [0]), "B": None})
NO_MANUSCRIPT = Grammar("A", {"A": (1, [(0, "A", "", 0)], []), "B": None})


def style_of(*rules, faces=(FACE,), **named):
    return Style(Sheet(rules), faces, **named)


def root_key(one, two, grammar):
    return grammar.root, "", one.root_context(), two.root_context(), BEGIN


def inside(style, key, at):
    return style.sheet.values_of(key[0], key[1], key[at])


def behind_parts(one, two, grammar, key, table):
    """What the parts of a piece of the key leave by the table, by [8.10]; None if a key of a part has no row."""
    values = inside(one, key, 2), inside(two, key, 3)
    fronts = {(0, "", joint_page(key[4], *[told[4] and not told[5] for told in values]))}
    seen, found = set(), set()
    while fronts:
        front = fronts.pop()
        room, elder, joint = front
        seen.add(front)
        if joint == "parted":
            found.add(joint)
            continue
        if grammar.is_final(key[0], room):
            found.add(joint)
        for part, marks, target in grammar.steps(key[0], room):
            contexts = (one.sheet.below(key[0], key[1], key[2], elder), two.sheet.below(key[0], key[1], key[3], elder))
            rows = table.get((part, marks) + contexts + (joint,))
            if rows is None:
                return None
            fronts |= {(target, part, behind) for behind in rows} - seen
    return found


def plain_flaw(one, two, grammar, rows):
    grammar, table = grammar.trimmed(), {}
    for row in rows:
        table.setdefault(row[:5], set()).add(row[5])
    root = table.get(root_key(one, two, grammar))
    if root is None:
        return "begin"
    if not all(map(alike_at_end, root)):
        return "unlike"
    for key, told in table.items():
        if grammar.has_blocks(key[0]):
            needed = set(joint_texts(one, two, key[4], inside(one, key, 2), inside(two, key, 3)))
        else:
            needed = behind_parts(one, two, grammar, key, table)
        if needed is None or not needed <= told:
            return "missing"
    return None


class TestFlaw(Case):
    def check(self, one, two, grammar, rows, wanted):
        before = list(rows)
        self.assertEqual(flaw(one, two, grammar, rows), wanted)
        self.assertEqual(plain_flaw(one, two, grammar, rows), wanted)
        self.assertEqual(rows, before)

    def pairs(self):
        """Some pairs of alike styles with their grammars."""
        one = style_of(Rule(1, kind="B", space=1))
        kept = style_of(Rule(1, elder="B", kept=True), length=4)
        return [
            (one, style_of(Rule(1, kind="B", space=2)), FLAT),
            (kept, kept.with_sheet(kept.sheet.with_rule(Rule(0, elder="A", kept=False))), NESTED),
            (style_of(length=3), style_of(Rule(2, kind="A", space=2), length=3), NESTED),
        ]

    def test_the_rows_of_an_alike_verdict(self):
        for one, two, grammar in self.pairs():
            rows = compare_styles(one, two, grammar).table()
            self.check(one, two, grammar, rows, None)
            self.check(one, two, grammar, rows[::-1] + rows[:3], None)

    def test_no_rows(self):
        for one, two, grammar in self.pairs():
            self.check(one, two, grammar, [], "begin")

    def test_one_row_taken_out(self):
        for one, two, grammar in self.pairs():
            rows = compare_styles(one, two, grammar).table()
            root = root_key(one, two, grammar)
            alone = len([row for row in rows if row[:5] == root]) == 1
            for at in range(0, len(rows), 1 + len(rows) // 40):
                row = rows[at]
                self.check(one, two, grammar, rows[:at] + rows[at + 1:], "begin" if row[:5] == root and alone else "missing")

    def test_without_the_root(self):
        for one, two, grammar in self.pairs():
            rows = compare_styles(one, two, grammar).table()
            self.check(one, two, grammar, [row for row in rows if row[:5] != root_key(one, two, grammar)], "begin")

    def test_rows_added(self):
        one, two, grammar = self.pairs()[0]
        rows = compare_styles(one, two, grammar).table()
        # A row of another key whose productions have no rows.
        context = ("A", "x", "B", 0, 3, False)
        self.check(one, two, grammar, rows + [("B", "", context, context, BEGIN, BEGIN)], "missing")
        # A key with all that its productions lead to does no harm.
        values = inside(one, ("B", "", context), 2)
        told = [("B", "", context, context, BEGIN, behind) for behind in joint_texts(one, two, BEGIN, values, values)]
        self.check(one, two, grammar, rows + told, None)
        # A row that need not be there for a key that is: what follows from it needs rows, too.
        other = (("open", 1, 0), (), ("top", 0, 0), (), ())
        more = [row[:5] + (other,) for row in rows if row[0] == "B"][:1]
        self.check(one, two, grammar, rows + more, "missing")
        begin = [row for row in rows if row[:5] == root_key(one, two, grammar)][:1]
        self.check(one, two, grammar, rows + [begin[0][:5] + (other,)], None)

    def test_another_last_member(self):
        one, two, grammar = self.pairs()[0]
        rows = compare_styles(one, two, grammar).table()
        root = root_key(one, two, grammar)
        unlike = (("top", 0, 0), (), ("kept", 2, 1), (0,), ((False, 0),))
        self.assertFalse(alike_at_end(unlike))
        for other in ("parted", unlike):
            self.check(one, two, grammar, rows + [root + (other,)], "unlike")
            # The order of the answers: what is missing is told last.
            self.check(one, two, grammar, [root + (other,)], "unlike")
        self.check(one, two, grammar, [root + (BEGIN,)], "missing")

    def test_parts_that_leave_what_is_parted(self):
        one, two, grammar = self.pairs()[2]
        rows = compare_styles(one, two, grammar).table()
        root = root_key(one, two, grammar)
        at = [row for row in rows if row[0] == "B"][0]
        # The pieces around such a part need a row with "parted", too; behind it, parts need none.
        self.check(one, two, grammar, rows + [at[:5] + ("parted",)], "missing")
        inner = [row[:5] + ("parted",) for row in rows if row[0] == "A" and row[:5] != root]
        self.check(one, two, grammar, sorted(set(rows) | set(inner), key=repr) + [at[:5] + ("parted",)], "missing")
        flat = style_of(Rule(1, mark="x", page=True))
        told = compare_styles(flat, flat, FLAT).table()
        part = [row for row in told if row[0] == "B"][0]
        self.check(flat, flat, FLAT, told + [part[:5] + ("parted",)], "missing")
        begin = root_key(flat, flat, FLAT)
        self.check(flat, flat, FLAT, told + [part[:5] + ("parted",), begin + ("parted",)], "unlike")

    def test_styles_that_are_not_alike(self):
        one, two = style_of(), style_of(Rule(1, mark="x", page=True))
        grammar = Grammar("A", {"A": (1, [(0, "B", "", 0), (0, "B", "x", 0)], [0]), "B": None})
        rows = compare_styles(one, one, grammar).table()
        self.check(one, two, grammar, rows, "missing")
        self.check(one, one, grammar, rows, None)
        self.check(style_of(measure=1), one, grammar, rows, "begin")

    def test_random_changes(self):
        chance = random.Random(211)
        answers = []
        while len(answers) < 400:
            grammar = random_grammar(chance)
            one = random_style(chance)
            rows = list(one.sheet)
            chance.shuffle(rows)
            two = one.with_sheet(Sheet(rows))
            verdict = compare_styles(one, two, grammar)
            if not verdict.is_alike:
                continue
            others = compare_styles(one.with_sheet(Sheet([])), one.with_sheet(Sheet([])), grammar).table()
            table = verdict.table()
            for _ in range(8):
                told = list(table)
                for _ in range(chance.choice([1, 1, 2, 3])):
                    change = chance.randrange(3)
                    if change == 0 and told:
                        told.pop(chance.randrange(len(told)))
                    elif change == 1:
                        told.append(chance.choice(others))
                    elif told:
                        row = chance.choice(told)
                        told.append(row[:5] + (chance.choice([chance.choice(table)[5], "parted"]),))
                wanted = plain_flaw(one, two, grammar, told)
                self.check(one, two, grammar, told, wanted)
                answers.append(wanted)
        for wanted in ("begin", "unlike", "missing", None):
            self.assertGreater(answers.count(wanted), 5)

    def test_refused(self):
        other = style_of(faces=[Face([DOT, BAR])])
        self.check_error(BadStyle, {"field": "faces"}, flaw, style_of(), other, NO_MANUSCRIPT, [])
        self.check_error(BadStyle, {"field": "faces"}, flaw, other, style_of(), FLAT, [])
        self.check_error(BadGrammar, {"kind": "A"}, flaw, style_of(), style_of(), NO_MANUSCRIPT, [])
