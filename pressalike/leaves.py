"""Leaves: the ends of insides that are not followed part by part."""

from pressalike.contexts import parts_cost
from pressalike.fronts import ends_of
from pressalike.pens import text_cost
from pressalike.standings import after_block
from pressalike.together import class_pairs, pairs_after

SAME = ("same", (), None)


class Leaves:
    """The ends of the words of blocks, of least insides and of rests, for one style.

    A leaf is a tuple (end, number, cost, thing). The number is that of the counted blocks. The thing is what stands
    inside, words or parts; for an edit it is a pair of what stands inside before it and of the edit (deed, path,
    thing). The leaves of one end can be several.
    """

    def __init__(self, style, endings):
        self._style = style
        self._endings = endings
        self._classes = {}

    def leaves_of(self, inside):
        """Return the list of the leaves of the inside, or of the rest."""
        sort = inside[0]
        if sort == "words":
            _, first, second, one, two = inside
            return [(told[:2], 0, text_cost(told[2]), told[2]) for told in self._text_rows(first, second, one, two)]
        if sort == "pairwords":
            return self._pair_rows(inside[1], inside[2])
        if sort == "editwords":
            return self._edit_rows(inside[1], inside[2])
        rooms = inside[2] if sort == "rest" else (0, 0)
        # A block has no words then.
        parts = self._endings.get((inside[1], rooms), ())
        if sort == "same":
            return [(None, 0, parts_cost(parts), (parts, SAME))]
        return [(None if sort == "rest" else inside[2], 0, parts_cost(parts), parts)]

    def _text_rows(self, first, second, one, two):
        """Return the list of (standing, standing, least words) of the texts of a block with these values."""
        return pairs_after(self._style.length, self._class_pairs(first, second), one, first, two, second)

    def _class_pairs(self, first, second):
        key = first[:2] + second[:2]
        if key not in self._classes:
            faces = (self._style.face(first[0]), self._style.face(second[0]))
            self._classes[key] = class_pairs(self._style.length, faces[0], first[1], faces[1], second[1])
        return self._classes[key]

    def _pair_rows(self, values, pair):
        """Return the leaves of a block that is set from both standings: it is counted if it has a line."""
        least = {}
        for count, _, words in self._class_pairs(values, values):
            one, two = [
                after_block(self._style.length, standing, count, space=values[2], kept=values[3]) for standing in pair
            ]
            row = (text_cost(words), words)
            key = (ends_of(one, two), int(count > 0))
            least[key] = min(least.get(key, row), row)
        return [key + least[key] for key in least]

    def _edit_rows(self, values, standing):
        """Return the leaves of a block that gets other words."""
        texts = [(one, words) for one, _, words in self._text_rows(values, values, standing, standing)]
        rows = []
        for one, old in texts:
            for two, new in texts:
                if one <= two:
                    rows.append((ends_of(one, two), 0, text_cost(old) + text_cost(new), (old, ("words", (), new))))
        return rows
