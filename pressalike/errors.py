"""All errors of the package.

A text that shows its argument is used only where the argument is a plain
one: an argument that can be any value is left to the attribute.
"""


class PressError(ValueError):
    """The base of all errors of the package."""


class BadOutline(PressError):
    """Something is not an outline; `ring` is the first wrong ring, or None."""

    def __init__(self, letter, ring):
        super().__init__(f"the outline of {letter!r} is wrong (ring: {ring})")
        self.letter = letter
        self.ring = ring


class NoInk(PressError):
    """A letter of a face has no inked cell."""

    def __init__(self, letter):
        super().__init__(f"the letter {letter!r} has no inked cell")
        self.letter = letter


class BadFace(PressError):
    """A face has a wrong number of letters or a wrong distance."""

    def __init__(self, count):
        super().__init__("a face has 1 to 4 outlines and a distance from 0 to 2")
        self.count = count


class BadWord(PressError):
    """Something is not a word, or not a letter, of a face."""

    def __init__(self, word):
        super().__init__("this is no word or letter of the face")
        self.word = word


class BadPiece(PressError):
    """A piece is wrong, or there is none at a path."""

    def __init__(self, path):
        super().__init__(f"there is no such piece (path: {path})")
        self.path = path


class BadText(PressError):
    """A text is not the text of a piece."""

    def __init__(self, at):
        super().__init__(f"no text of a piece goes on like this at index {at}")
        self.at = at


class BadGrammar(PressError):
    """A kind of a grammar is wrong or has no piece."""

    def __init__(self, kind):
        super().__init__(f"the grammar fails at the kind {kind!r}")
        self.kind = kind


class NotOfGrammar(PressError):
    """A manuscript is not of a grammar."""

    def __init__(self, path):
        super().__init__(f"the piece at {path} is wrong for the grammar")
        self.path = path


class BadEdit(PressError):
    """An edit does not apply."""

    def __init__(self, path):
        super().__init__(f"the edit does not apply (path: {path})")
        self.path = path


class BadRule(PressError):
    """A rule, or a place of a sheet, is wrong."""

    def __init__(self, place):
        super().__init__("this is no rule, or no place of a rule")
        self.place = place


class BadStyle(PressError):
    """A field of a style is wrong."""

    def __init__(self, field):
        super().__init__(f"the style is wrong: {field}")
        self.field = field


class BadLine(PressError):
    """A line of a text is wrong."""

    def __init__(self, number):
        super().__init__(f"line {number} of the text is wrong")
        self.number = number


class BadStanding(PressError):
    """Something is not a standing."""

    def __init__(self, standing):
        super().__init__("this is no standing of the length")
        self.standing = standing


class NoRank(PressError):
    """There are no ranks, since there is no greatest number."""

    def __init__(self, deed):
        super().__init__(f"there are no ranks: {deed!r} has no greatest number")
        self.deed = deed


class NotEndless(PressError):
    """There are no samples, since there is a greatest number."""

    def __init__(self, deed):
        super().__init__(f"there are no samples: {deed!r} has a greatest number")
        self.deed = deed


class NotSeam(PressError):
    """A manuscript is not cut at a place."""

    def __init__(self, place):
        super().__init__(f"there is no cut at {place}")
        self.place = place


class BadRun(PressError):
    """No run has a ticket, or a setting does not fit its run."""

    def __init__(self, number):
        super().__init__("no run has this ticket, or the setting does not fit it")
        self.number = number


class BadChange(PressError):
    """A change of a style, or the place of a change, is wrong."""

    def __init__(self, place):
        super().__init__("this is no change, or no place of a change")
        self.place = place
