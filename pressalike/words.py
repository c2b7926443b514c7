"""Words of a face: columns, widths, stamps, and all short words in order."""

from pressalike.checks import is_word_of
from pressalike.errors import BadWord


def is_word(face, word):
    """Tell whether the word is a word of the face."""
    return is_word_of(face.letters, word)


def columns(face, word):
    """Return the list of the columns of the letters."""
    if not is_word(face, word):
        raise BadWord(word)
    found = [0]
    for at in range(1, len(word)):
        left, right = word[at - 1], word[at]
        found.append(found[-1] + face.step(left) + face.gap(left, right))
    return found


def width(face, word):
    """Return the width of the word."""
    return columns(face, word)[-1] + face.step(word[-1])


def stamps(face, word):
    """Return the tuple of the stamps (ink, column) of the letters."""
    return tuple([(face.ink(letter), column) for column, letter in zip(columns(face, word), word)])


def words_up_to(face, most, *, least=1):
    """Yield all words with least to most letters, shortest first, those of one length alphabetically."""
    found = [""]
    for length in range(1, most + 1):
        found = [word + letter for word in found for letter in face.letters]
        if length >= least:
            yield from found
