"""Components: things that lead to one another."""


class Components:
    """Walks through all that some starts lead to, and tells the components of it.

    A component is a list of things each of which leads, by one step or several, to all the others. `kids_of` tells the
    list of what a thing leads to, and `tell` is told the components, each behind those that it leads to. If it returns
    True, nothing further is walked through.
    """

    def __init__(self, kids_of, tell):
        self._kids_of = kids_of
        self._tell = tell
        self._done = {}
        self._has_stopped = False
        # The things on the way, in the order in which they came, with their places; and the places at which the
        # components begin that are known so far.
        self._items = []
        self._places = {}
        self._borders = []
        self._way = []

    def walk(self, start):
        """Walk through all that the start leads to, except for what has been walked through before."""
        if start not in self._places:
            self._enter(start)
        while self._way and not self._has_stopped:
            item, kids = self._way[-1]
            if not kids:
                self._way.pop()
                self._leave(item)
                continue
            kid = kids.pop()
            if kid not in self._places:
                self._enter(kid)
            elif kid not in self._done:
                while self._borders[-1] > self._places[kid]:
                    self._borders.pop()

    def _enter(self, item):
        kids_of = self._kids_of
        self._places[item] = len(self._items)
        self._borders.append(len(self._items))
        self._items.append(item)
        self._way.append((item, list(kids_of(item))))

    def _leave(self, item):
        tell = self._tell
        place = self._places[item]
        if self._borders[-1] == place:
            self._borders.pop()
            members = self._items[place:]
            del self._items[place:]
            for member in members:
                self._done[member] = True
            self._has_stopped = tell(members)
