"""Pens: what further words do to a text, and what two settings of all texts gain."""

from heapq import heappop, heappush

from pressalike.errors import NoRank, NotEndless
from pressalike.wordkinds import joint_kinds, word_kinds


def pen_after(measure, pen, width):
    """Return (pen behind the word, whether the word begins a line); pen 0 means no word yet."""
    end = pen + 1 + width
    if pen > 0 and end <= measure:
        return end, False
    return min(width, measure + 1), True


def least_texts(start, words, after):
    """Return a dict with the least text of each state that some text leaves from the start on.

    `words` are pairs (thing, word), and after(state, thing) is the state behind such a word, None
    if it is not to be followed. A text that begins with no least text is not least either, so it is
    enough to go on from the least text of each state.
    """
    known = {start: (0, ())}
    found = {}
    queue = [(0, (), start)]
    while queue:
        cost, text, state = heappop(queue)
        if state in found:
            continue
        found[state] = text
        for thing, word in words:
            behind = after(state, thing)
            row = (cost + 1 + len(word), text + (word,))
            if behind is not None and (behind not in known or row < known[behind]):
                known[behind] = row
                heappush(queue, row + (behind,))
    return found


def text_ends(face, measure, most):
    """Return the list of all (count, pen, words): the ends of the texts with at most so many lines."""

    def end_after(end, told):
        pen, begins = pen_after(measure, end[1], told)
        count = end[0] + int(begins)
        return None if count > most else (count, pen)

    found = least_texts((0, 0), word_kinds(face, measure), end_after)
    return sorted([end + (found[end],) for end in found])


def text_cost(words):
    """Return the cost of the text: the number of its words and their letters."""
    return len(words) + sum([len(word) for word in words])


def least_by_name(rows):
    """Return a dict from each name to its least text; the rows are pairs (name, text)."""
    found = {}
    for name, words in rows:
        told = (text_cost(words), words)
        found[name] = min(found.get(name, told), told)
    return {name: found[name][1] for name in found}


def width_pairs(one, two, cap):
    """Return a list of ((told width, told width), least word) for two faces under the cap."""
    found = least_by_name([(row[:2], (row[3],)) for row in joint_kinds(one, two, cap)])
    return [(pair, found[pair][0]) for pair in found]


def pens_after(measures, pens, widths):
    """Return the pair of pens behind a word of these two widths, and the pair of whether it begins a line."""
    one, first = pen_after(measures[0], pens[0], widths[0])
    two, second = pen_after(measures[1], pens[1], widths[1])
    return (one, two), (first, second)


class LineGain:
    """The gains of all texts that are filled under two faces, each with a measure."""

    def __init__(self, one, measure_one, two, measure_two):
        words = width_pairs(one, two, max(measure_one, measure_two))
        self._ways = _all_ways((measure_one, measure_two), words)
        self._ranks, turn = _ranks_of(self._ways)
        self._has_most = turn is None
        self.most = self.words = self.ahead = self.again = None
        if self._has_most:
            # A word wider than both measures begins a line in both, and behind it all is as it was ahead of the
            # first word. So a gain above that of the empty text could be had again and again.
            self.most, self.words = 0, ()
        else:
            pens, self.again = turn
            self.ahead = _texts_to(self._ways)[pens]

    @property
    def is_endless(self):
        """Whether there is no greatest gain."""
        return not self._has_most

    def ranks(self):
        """Return the list of all (pen one, pen two, rank)."""
        if not self._has_most:
            raise NoRank("words")
        return sorted([pens + (self._ranks[pens],) for pens in self._ranks])

    def sample(self, number):
        """Return a text with a gain of at least this number."""
        if self._has_most:
            raise NotEndless("words")
        text = self.ahead
        while self._gain(text) < number:
            text = text + self.again
        return text

    def _gain(self, text):
        pens, gain = (0, 0), 0
        for word in text:
            pens, more = self._ways[pens][word]
            gain += more
        return gain


def _all_ways(measures, words):
    """Return a dict from each pair of pens that some text leaves to a dict from each word to (pens behind, gain)."""
    ways = {}
    todo = [(0, 0)]
    while todo:
        pens = todo.pop()
        if pens not in ways:
            ways[pens] = {}
            for widths, word in words:
                behind, begins = pens_after(measures, pens, widths)
                ways[pens][word] = (behind, int(begins[0]) - int(begins[1]))
                todo.append(behind)
    return ways


def _ranks_of(ways):
    """Return the ranks of the pens and None, or anything and a turn if there is no greatest gain.

    A turn is (pens, words) with words that gain something and lead from the pens back to them.
    """
    ranks = {pens: 0 for pens in ways}
    best = {}
    # Ranks that exist are reached with fewer words than there are pens; so a gain in the last round is endless.
    for _ in ways:
        late = None
        for pens in ways:
            for word, (behind, gain) in ways[pens].items():
                if gain + ranks[behind] > ranks[pens]:
                    ranks[pens] = gain + ranks[behind]
                    best[pens] = (word, behind)
                    late = pens
    return ranks, None if late is None else _turn(best, late)


def _turn(best, pens):
    """Return the turn to which the best words lead from these pens."""
    # As many words as there are pens lead into the turn; from there on they go round in it.
    for _ in best:
        pens = best[pens][1]
    words, behind = (best[pens][0],), best[pens][1]
    while behind != pens:
        words, behind = words + (best[behind][0],), best[behind][1]
    return pens, words


def _texts_to(ways):
    """Return a dict with the least text to each pair of pens."""
    words = [(word, word) for word in ways[(0, 0)]]
    return least_texts((0, 0), words, lambda pens, word: ways[pens][word][0])
