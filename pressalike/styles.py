"""Styles: a sheet, faces, a page length and a measure."""

from pressalike.checks import is_integer_from, is_row
from pressalike.errors import BadStyle
from pressalike.faces import Face
from pressalike.sheets import Sheet


class Style:
    """All that decides how a manuscript is set."""

    def __init__(self, sheet, faces, *, length=2, measure=3):
        if not isinstance(sheet, Sheet):
            raise BadStyle("sheet")
        if not _are_faces(faces):
            raise BadStyle("faces")
        if not is_integer_from(length, 2, 4):
            raise BadStyle("length")
        if not is_integer_from(measure, 1, 6):
            raise BadStyle("measure")
        self.sheet = sheet
        self.faces = tuple(faces)
        self.length = length
        self.measure = measure

    def face(self, value):
        """Return the face that the value 0 or 1 means."""
        return self.faces[min(value, len(self.faces) - 1)]

    def root_context(self):
        """Return the context of the root."""
        return "", "", "", 0, self.measure, False

    def with_sheet(self, sheet):
        """Return the style with this sheet and all else as it is."""
        return Style(sheet, self.faces, length=self.length, measure=self.measure)

    def __eq__(self, other):
        if not isinstance(other, Style) or self.sheet != other.sheet or self.faces != other.faces:
            return False
        return self.length == other.length and self.measure == other.measure


def _are_faces(faces):
    """Tell whether this is a row of one or two faces over the same letters."""
    if not is_row(faces) or len(faces) not in (1, 2):
        return False
    if not all([isinstance(face, Face) for face in faces]):
        return False
    return faces[0].letters == faces[-1].letters
