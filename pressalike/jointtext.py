"""What all texts of one block do to the joint standing of two styles."""

from pressalike.errors import BadStyle
from pressalike.joint import PARTED, joint_block
from pressalike.pens import least_by_name, least_texts, pens_after
from pressalike.wordkinds import joint_kinds


def check_faces(one, two):
    """Raise BadStyle("faces") unless the faces of the two styles cover the same letters."""
    if one.faces[0].letters != two.faces[0].letters:
        raise BadStyle("faces")


def joint_texts(one, two, joint, first, second):
    """Return a dict from each joint standing that some text of the block leaves to a text of least cost."""
    check_faces(one, two)
    if joint == PARTED:
        return {PARTED: ()}
    texts = filled_texts(one, two, first, second)
    return texts_behind((one.length, two.length), joint, texts, first, second)


def filled_texts(one, two, first, second):
    """Return a list of (count, words) with least texts of a block with these values in the two styles.

    There is one for each count of lines that can matter, if the two styles fill some text alike in so many lines;
    and one with the count None for the texts that part the styles by themselves, if there are any.
    """
    if first[5] and second[5]:
        return [(0, ())]
    # From a few lines on all pages go on alike, or the styles are parted; so further counts do nothing new.
    most = max(one.length, two.length) + 5
    measures = (first[1], second[1])

    def after(state, told):
        count, pens = state
        if count is None:
            return None
        pens, begins = pens_after(measures, pens, told[:2])
        if not told[2] or begins[0] != begins[1]:
            return None, ()
        count += int(begins[0])
        return None if count > most else (count, pens)

    kinds = joint_kinds(one.face(first[0]), two.face(second[0]), max(measures))
    texts = least_texts((0, (0, 0)), [(row[:3], row[3]) for row in kinds], after)
    found = least_by_name([(state[0], texts[state]) for state in texts])
    return [(many, found[many]) for many in found]


def texts_behind(lengths, joint, texts, first, second):
    """Return a dict from each joint standing that a block with one of these texts leaves to a text of least cost."""
    rows = []
    for count, words in texts:
        behind = PARTED if count is None else joint_block(lengths, joint, count, first, second)
        rows.append((behind, words))
    return least_by_name(rows)
