"""Questions about passed values that several modules ask."""

LETTERS = "abcd"
MOST_LETTERS = 40


def is_integer(value):
    """Tell whether the value is an integer; True and False are none."""
    return isinstance(value, int) and not isinstance(value, bool)


def is_integer_from(value, low, high):
    """Tell whether the value is an integer from low to high."""
    return is_integer(value) and low <= value <= high


def is_row(value):
    """Tell whether the value is a list or a tuple."""
    return isinstance(value, (list, tuple))


def is_word_of(letters, value):
    """Tell whether the value is a text of 1 to 40 of these letters."""
    if not isinstance(value, str) or not 1 <= len(value) <= MOST_LETTERS:
        return False
    return all([letter in letters for letter in value])
