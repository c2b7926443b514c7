import random

from helpers import DOT, Case, random_grammar, random_style
from plainly import ends_of

from pressalike.edits import Words
from pressalike.errors import BadGrammar
from pressalike.faces import Face
from pressalike.grammar import Grammar
from pressalike.ownparts import edit_ends, own_ends
from pressalike.pairs import pair_ends
from pressalike.ranks import ranks_hold
from pressalike.reach import reach
from pressalike.rules import Rule
from pressalike.sheets import Sheet
from pressalike.singles import single_ends
from pressalike.styles import Style

FACE = Face([DOT])
TOP, OPEN = ("top", 0, 0), ("open", 1, 0)
FLAT = Grammar("A", {"A": (1, [(0, "B", "", 0)], [0]), "B": None})
MARKED = Grammar("A", {"A": (1, [(0, "B", "", 0), (0, "B", "x", 0)], [0]), "B": None})
NESTED = Grammar("A", {"A": (1, [(0, "A", "x", 0), (0, "B", "", 0)], [0]), "B": None})
FOUR = Grammar("A", {
    "A": (3, [(0, "C", "", 1), (1, "C", "", 2)], [1, 2]), "B": None,
    "C": (3, [(0, "B", "", 1), (1, "B", "", 2), (1, "B", "x", 2)], [0, 1, 2]),
})
NO_MANUSCRIPT = Grammar("A", {"A": (1, [(0, "A", "", 0)], []), "B": None})
FIXED = Grammar("A", {"A": (2, [(0, "B", "", 1)], [1]), "B": None})
DEEDS = ("words", "marks", "parts")


def style_of(*rules, **named):
    return Style(Sheet(rules), [FACE], **named)


def changed_table(chance, rows, others):
    """The rows with some of them changed, left away or added."""
    table = {row[:6]: row[6] for row in rows}
    for _ in range(chance.choice([0, 1, 1, 2, 4])):
        row = chance.choice(rows)
        change = chance.randrange(5)
        if change == 0:
            table.pop(row[:6], None)
        elif change in (1, 2):
            table[row[:6]] = row[6] + chance.choice([-1, 1, 2, 10 ** 20])
        elif change == 3:
            table.setdefault(row[:5] + (chance.choice(rows)[5],), chance.choice([-2, 0, 3]))
        elif others:
            more = chance.choice(others)
            table.setdefault(more[:6], more[6])
    if chance.random() < 0.3:
        raised = {row[0]: chance.randrange(20) for row in rows}
        table = {key: number + raised.get(key[0], 0) for key, number in table.items()}
    return [key + (number,) for key, number in table.items()]


class PlainRanks:
    """The words of [9.7], entry by entry; what single calls tell of blocks and of own parts is taken as it is."""

    def __init__(self, style, grammar, deed, table):
        self.style, self.grammar, self.deed = style, grammar, deed
        self.table = {}
        for row in table:
            self.table.setdefault(row[:5], {})[row[5]] = row[6]

    def hold(self):
        root = ("edit", self.grammar.root, "", self.style.root_context(), TOP)
        if self.holds_edit(self.grammar.root) and root not in self.table:
            return False
        return all(self.is_right(entry) for entry in self.table)

    def holds_edit(self, kind):
        context = ("A", "", "", 0, 3, False)
        return edit_ends(self.style, self.grammar, self.deed, kind, "", context, TOP) != []

    def is_right(self, entry):
        needed = self.needed(entry)
        return needed is not None and all(
            end in self.table[entry] and self.table[entry][end] >= number for end, number in needed.items())

    def needed(self, entry):
        """The ends that must have rows with the numbers that they must have at least; None if the table cannot hold."""
        sort, kind, marks, context, ahead = entry
        values = self.style.sheet.values_of(kind, marks, context)
        if sort == "behind" and (self.grammar.has_blocks(kind) or values[4] or values[5]):
            return {end: number for end, number, _ in pair_ends(self.style, self.grammar, kind, marks, context, *ahead)}
        if sort == "edit" and (self.grammar.has_blocks(kind) or not self.holds_edit(kind)):
            return {end: number for end, number, _, _ in edit_ends(self.style, self.grammar, self.deed, kind, marks, context, ahead)}
        if sort == "edit":
            begin = TOP if values[4] and not values[5] else ahead
            sums = {("edit", 0, "", begin): 0}
        else:
            sums = {("behind", (0, 0), "", ahead): 0}
        known = None
        for _ in range(200):
            if sums == known:
                break
            known = dict(sums)
            for front in known:
                ways = self.ways(kind, marks, context, front)
                if ways is None:
                    return None
                for behind, number in ways:
                    sums[behind] = max(sums.get(behind, known[front] + number), known[front] + number)
        else:
            return None
        ends = {}
        for front, number in sums.items():
            if front[0] == "end" or (front[0] != "edit" and all(self.grammar.is_final(kind, room) for room in front[1])):
                end = front[3] if front[0] != "put" else ends_of(front[3], front[4])
                ends[end] = max(ends.get(end, number), number)
        if sort == "edit" and self.deed == "marks":
            ends[None] = max(ends.get(None, 0), 0)
        return ends

    def ways(self, kind, marks, context, front):
        """A list of (front behind, number) for all parts that may follow, None if one of them lacks a row."""
        if front[0] == "end":
            return []
        below = self.style.sheet.below(kind, marks, context, "")
        if front[0] == "edit":
            return self.edit_ways(kind, below, front)
        found = []
        for part, part_marks, one, two in self.steps(kind, front[1]):
            at = below[:2] + (front[2],) + below[3:]
            if front[0] == "put":
                other = below[:2] + (front[5],) + below[3:]
                told = own_ends(self.style, self.grammar, part, (part_marks, other, front[4]), (part_marks, at, front[3]))
                found += [(self.behind((one, two), part, ends_of(*row[:2])), 0) for row in told]
            else:
                rows = self.table.get(("behind", part, part_marks, at, front[3]))
                if rows is None:
                    return None
                found += [(self.behind((one, two), part, end), number) for end, number in rows.items()]
        return found

    def behind(self, rooms, elder, end):
        return ("end", rooms, "", None) if end is None else ("behind", rooms, elder, end)

    def steps(self, kind, rooms):
        """The parts that may follow in both rooms, if the rooms to which they lead have an end in common."""
        for part, marks, one in self.grammar.steps(kind, rooms[0]):
            two = self.grammar.follow(kind, rooms[1], (part, marks))
            if two is not None and self.can_end(kind, (one, two)):
                yield part, marks, one, two

    def can_end(self, kind, rooms):
        seen, todo = set(), [rooms]
        while todo:
            one, two = todo.pop()
            if self.grammar.is_final(kind, one) and self.grammar.is_final(kind, two):
                return True
            if (one, two) not in seen:
                seen.add((one, two))
                for part, marks, target in self.grammar.steps(kind, one):
                    other = self.grammar.follow(kind, two, (part, marks))
                    todo += [] if other is None else [(target, other)]
        return False

    def edit_ways(self, kind, below, front):
        _, room, elder, standing = front
        at = below[:2] + (elder,) + below[3:]
        found = []
        for part, marks, target in self.grammar.steps(kind, room):
            for single, _ in single_ends(self.style, self.grammar, part, marks, at, standing):
                found.append((("edit", target, part, single), 0))
                if self.deed == "parts" and self.can_end(kind, (room, target)):
                    found.append((("put", (room, target), elder, standing, single, part), 0))
            if self.holds_edit(part):
                rows = self.table.get(("edit", part, marks, at, standing))
                if rows is None:
                    return None
                found += [(self.behind((target, target), part, end), number) for end, number in rows.items()]
            for other, other_marks, other_target in self.grammar.steps(kind, room):
                if self.deed == "marks" and other == part and other_marks != marks and self.can_end(kind, (target, other_target)):
                    told = own_ends(self.style, self.grammar, part, (other_marks, at, standing), (marks, at, standing))
                    found += [(self.behind((target, other_target), part, ends_of(*row[:2])), 0) for row in told]
        return found


class TestRanksHold(Case):
    def holds(self, wanted, style, grammar, deed, table):
        before = list(table)
        self.assertIs(ranks_hold(style, grammar, deed, table), wanted)
        self.assertEqual(table, before)

    def check(self, style, grammar, deed, chance, most=12):
        """All rows hold; none of them can be left away or lowered, except where another one takes its place."""
        told = reach(style, grammar, deed)
        if told.is_endless:
            return 0
        rows = told.ranks()
        self.holds(True, style, grammar, deed, rows)
        self.holds(True, style, grammar, deed, chance.sample(rows, len(rows)))
        self.holds(rows == [], style, grammar, deed, [])
        for at in chance.sample(range(len(rows)), min(most, len(rows))):
            others = rows[:at] + rows[at + 1:]
            self.holds(False, style, grammar, deed, others)
            self.holds(False, style, grammar, deed, others + [rows[at][:6] + (rows[at][6] - 1,)])
        root = ("edit", grammar.root, "", style.root_context(), TOP)
        self.holds(True, style, grammar, deed, [row[:6] + (row[6] + 5 * (row[:5] == root),) for row in rows])
        return len(rows)

    def test_example(self):
        grammar = Grammar("A", {"A": (1, [(0, "B", "", 0)], [0]), "B": None})
        face = Face([[[(0, 0), (1, 0), (1, 1), (0, 1)]]])
        style = Style(Sheet([Rule(1, kind="B", space=1)]), [face])
        rows = reach(style, grammar, "words").ranks()
        self.assertEqual([row[6] for row in rows], [0, 1, 0, 1, 0, 0, 0, 0, 0, 0])
        self.assertEqual(
            (ranks_hold(style, grammar, "words", rows), ranks_hold(style, grammar, "words", rows[1:])), (True, False))

    def test_several_reaches(self):
        chance = random.Random(281)
        for style in (style_of(), style_of(Rule(1, mark="x", kept=True), length=3), style_of(Rule(1, mark="x", out=True))):
            for deed in DEEDS:
                self.assertGreater(self.check(style, FOUR, deed, chance, 20), 0)
        for rule in (Rule(1, kind="B", space=1), Rule(1, kind="B", page=True), Rule(1, kind="B", out=True), Rule(1, kind="A", out=True)):
            for grammar in (FLAT, NESTED):
                for deed in DEEDS:
                    self.check(style_of(rule), grammar, deed, chance)

    def test_random_ones(self):
        chance = random.Random(282)
        many = 0
        for _ in range(60):
            style, grammar = random_style(chance, [FACE]), random_grammar(chance)
            for deed in DEEDS:
                many += self.check(style, grammar, deed, chance, 6)
        self.assertGreater(many, 1000)

    def test_no_rows_needed(self):
        self.holds(True, style_of(), FIXED, "parts", [])
        self.holds(False, style_of(), FIXED, "words", [])
        # What no way leads to must be right all the same.
        context = ("A", "", "", 0, 3, False)
        entry = ("behind", "B", "", context, (OPEN, TOP))
        self.holds(False, style_of(), FIXED, "parts", [entry + (None, 1)])
        rows = [entry + (end, number) for end, number in (((OPEN, TOP), 1), (None, 1))]
        self.holds(True, style_of(Rule(1, kind="B", space=1)), FIXED, "parts", rows)
        self.holds(False, style_of(Rule(1, kind="B", space=1)), FIXED, "parts", [entry + ((OPEN, TOP), 1), entry + (None, 0)])

    def test_endless_reaches_have_no_table(self):
        # With the rows of the other style there is always a way with more.
        rows = reach(style_of(Rule(1, kind="B", space=1)), FLAT, "words").ranks()
        self.holds(False, style_of(), FLAT, "words", rows)
        context, root = ("A", "", "B", 0, 3, False), ("edit", "A", "", ("", "", "", 0, 3, False), TOP)
        first = ("A", "", "", 0, 3, False)
        table = []
        for number in (0, 1, 10 ** 29):
            table = [root + (end, number) for end in ((OPEN, TOP), None)]
            table += [("behind", "B", "", context, (OPEN, TOP), end, 1) for end in ((OPEN, TOP), None)]
            table += [("edit", "B", "", first, TOP, end, 0) for end in ((OPEN, TOP), None)]
            table += [("edit", "B", "", context, standing, end, 0) for standing in (TOP, OPEN) for end in ((OPEN, TOP), None)]
            self.holds(False, style_of(), FLAT, "words", table)
        # Without a counted block on the way round there is a greatest number.
        self.holds(True, style_of(Rule(1, kind="B", out=True)), FLAT, "words", [
            row[:6] + (0,) for row in table if row[0] == "edit" and row[5] is None
        ])

    def test_rows_of_ends_that_never_follow(self):
        style = style_of(Rule(1, kind="B", page=True))
        rows = reach(style, FLAT, "words").ranks()
        self.holds(True, style, FLAT, "words", rows)
        # Any ends that a row has may follow; so the pieces around need rows for them, too.
        at = [row for row in rows if row[1] == "B"][0]
        more = at[:5] + ((("kept", 1, 0), TOP), 0)
        self.holds(False, style, FLAT, "words", rows + [more])
        root = [row for row in rows if row[1] == "A"][0]
        self.holds(False, style, FLAT, "words", rows + [more, root[:5] + (more[5], 0)])
        # This one makes what follows a new page.
        context = ("A", "", "B", 0, 3, False)
        behind = ("behind", "B", "", context, more[5], None, 0)
        self.holds(True, style, FLAT, "words", rows + [more, root[:5] + (more[5], 0), behind])
        self.holds(False, style, FLAT, "words", rows + [more, root[:5] + (more[5], -1), behind])

    def test_rows_below_0(self):
        style = style_of(Rule(1, kind="B", page=True))
        rows = reach(style, FLAT, "words").ranks()
        at = [row for row in rows if row[1] == "B"][0]
        context, ends = ("A", "", "B", 0, 3, False), (("kept", 1, 0), TOP)
        root = [row for row in rows if row[1] == "A"][0]
        behind = ("behind", "B", "", context, ends, None, 0)
        # The sum is that of the rows used: -7 at the edit and then nothing, or 0 behind it.
        table = rows + [at[:5] + (ends, -7), root[:5] + (ends, -7), behind]
        self.holds(True, style, FLAT, "words", table)
        self.holds(False, style, FLAT, "words", [row for row in table if row != root[:5] + (ends, -7)] + [root[:5] + (ends, -8)])

    def test_entries_that_are_gone(self):
        style = style_of(Rule(1, mark="x", out=True), Rule(1, kind="B", page=True))
        for deed in DEEDS:
            rows = reach(style, NESTED, deed).ranks()
            self.holds(True, style, NESTED, deed, rows)
            gone = [row for row in rows if row[3][5]]
            self.assertTrue(gone)
            self.holds(False, style, NESTED, deed, [row for row in rows if row != gone[0]])

    def test_edit_entries_that_hold_no_edit(self):
        # No edit of the parts is held by a block; so such an entry asks for nothing.
        style = style_of(Rule(1, kind="B", page=True))
        rows = reach(style, FLAT, "parts").ranks()
        more = ("edit", "B", "", ("A", "", "", 0, 3, False), OPEN, None, -3)
        self.holds(True, style, FLAT, "parts", rows + [more])
        self.holds(False, style, FLAT, "words", rows + [more])

    def test_another_styles_rows(self):
        style = style_of(Rule(1, kind="B", page=True))
        for deed in ("words", "parts"):
            self.holds(False, style_of(), FLAT, deed, reach(style, FLAT, deed).ranks())

    def test_against_walking_through_all_ways(self):
        chance = random.Random(283)
        told = []
        while len(told) < 120:
            style, grammar, deed = random_style(chance, [FACE]), random_grammar(chance), chance.choice(DEEDS)
            found = reach(style, grammar, deed)
            rows = [] if found.is_endless else found.ranks()
            if not rows or len(rows) > 60:
                continue
            other = reach(style.with_sheet(Sheet([])), grammar, deed)
            others = [] if other.is_endless else other.ranks()
            for _ in range(6):
                table = changed_table(chance, rows, others)
                wanted = PlainRanks(style, grammar.trimmed(), deed, table).hold()
                self.holds(wanted, style, grammar, deed, table)
                told.append(wanted)
        self.assertGreater(told.count(True), 15)
        self.assertGreater(told.count(False), 15)

    def test_kinds_that_no_manuscript_has(self):
        grammar = Grammar("A", {"A": (2, [(0, "B", "", 0), (0, "C", "", 1)], [0]), "B": None, "C": None})
        style = style_of(Rule(1, kind="B", space=1))
        for deed in DEEDS:
            rows = reach(style, FLAT, deed).ranks()
            self.assertEqual(reach(style, grammar, deed).ranks(), rows)
            self.holds(True, style, grammar, deed, rows)

    def test_a_table_that_holds_bounds_all_edits(self):
        style = style_of(Rule(1, kind="B", space=1))
        told = reach(style, FLAT, "words")
        self.assertIsInstance(told.edit, Words)
        rows = [row[:6] + (row[6] + 3,) if row[1] == "A" else row for row in told.ranks()]
        self.holds(True, style, FLAT, "words", rows)

    def test_refused(self):
        for deed in DEEDS:
            self.check_error(BadGrammar, {"kind": "A"}, ranks_hold, style_of(), NO_MANUSCRIPT, deed, [])
