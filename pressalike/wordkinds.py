"""Word states and kinds: closed tables of what words of any length do."""

from pressalike.errors import BadFace


def told_width(cap, width):
    """Return the width as it is told under the cap."""
    return min(width, cap + 1)


def word_states(face, cap):
    """Return the word states, a list of (last letter, told width, least word)."""
    return [(row[0], row[1], row[4]) for row in joint_states(face, face, cap)]


def word_kinds(face, cap):
    """Return the word kinds, a list of (told width, least word)."""
    return [(row[0], row[3]) for row in joint_kinds(face, face, cap)]


def joint_states(one, two, cap):
    """Return the joint states, a list of (last letter, told width, told width, is alike, least word)."""
    _check_letters(one, two)
    found = {}
    layer = [(_first_state(one, two, cap, letter), letter) for letter in one.letters]
    # Each layer has the words of one length in order, so the first word of a state is its least one.
    while layer:
        fresh = []
        for state, word in layer:
            if state not in found:
                found[state] = word
                fresh.append((state, word))
        layer = [
            (_next_state(one, two, cap, state, letter), word + letter)
            for state, word in fresh
            for letter in one.letters
        ]
    return sorted([state + (found[state],) for state in found])


def joint_kinds(one, two, cap):
    """Return the joint kinds, a list of (told width, told width, is alike, least word)."""
    found = {}
    for row in joint_states(one, two, cap):
        kind, word = row[1:4], row[4]
        if kind not in found or (len(word), word) < (len(found[kind]), found[kind]):
            found[kind] = word
    return sorted([kind + (found[kind],) for kind in found])


def least_unlike(one, two):
    """Return the least word whose stamps in the two faces are not alike, None if there is none."""
    _check_letters(one, two)
    for letter in one.letters:
        if one.ink(letter) != two.ink(letter):
            return letter
    for left in one.letters:
        for right in one.letters:
            if one.gap(left, right) != two.gap(left, right):
                return left + right
    return None


def _check_letters(one, two):
    if one.letters != two.letters:
        raise BadFace(len(two.letters))


def _first_state(one, two, cap, letter):
    widths = (told_width(cap, one.step(letter)), told_width(cap, two.step(letter)))
    return (letter,) + widths + (one.ink(letter) == two.ink(letter),)


def _next_state(one, two, cap, state, letter):
    last, first, second, is_alike = state
    gaps = (one.gap(last, letter), two.gap(last, letter))
    # While the stamps are alike the true widths are equal, so equal gaps give equal columns.
    still_alike = is_alike and gaps[0] == gaps[1] and one.ink(letter) == two.ink(letter)
    first = told_width(cap, first + gaps[0] + one.step(letter))
    second = told_width(cap, second + gaps[1] + two.step(letter))
    return letter, first, second, still_alike
