"""Houses: classes of styles that print every manuscript alike, and specimens that tell them apart."""

from pressalike.joinedrows import least_unlike
from pressalike.jointtext import check_faces
from pressalike.setter import print_tree


class House:
    """A row of styles, the classes of those that are alike for a grammar, and specimens for the classes."""

    def __init__(self, styles, grammar):
        self._styles = tuple(styles)
        for style in self._styles:
            check_faces(self._styles[0], style)
        trimmed = grammar.trimmed()
        classes, specimens = [], []
        for place in range(len(self._styles)):
            number, tree = self._class_for(place, classes, specimens, trimmed)
            if tree is not None:
                specimens.append(tree)
            if number == len(classes):
                classes.append(())
            classes[number] = classes[number] + (place,)
        self.classes = tuple(classes)
        self.specimens = tuple(specimens)

    def class_of(self, place):
        """Return the number of the class in which the style at this place stands."""
        return [number for number in range(len(self.classes)) if place in self.classes[number]][0]

    def unlike(self, first, second):
        """Return a manuscript that the styles at these places print unlike, None if they are alike."""
        for tree in self.specimens:
            if print_tree(self._styles[first], tree) != print_tree(self._styles[second], tree):
                return tree
        return None

    def recognised(self, prints):
        """Return the number of the class whose styles print the specimens so, None if there is none."""
        for number in range(len(self.classes)):
            if self._prints(self.classes[number][0], self.specimens) == list(prints):
                return number
        return None

    def _class_for(self, place, classes, specimens, grammar):
        """Return (number of the class of the style, new specimen or None); a new class has the next number.

        The specimens tell the classes so far apart, so that the style can be alike to one of them at most.
        """
        mine = self._prints(place, specimens)
        for number in range(len(classes)):
            first = classes[number][0]
            if self._prints(first, specimens) == mine:
                tree = None
                if self._styles[first] != self._styles[place]:
                    tree = least_unlike(self._styles[first], self._styles[place], grammar)
                return (number, None) if tree is None else (len(classes), tree)
        return len(classes), None

    def _prints(self, place, trees):
        """Return the list of the prints of the trees by the style at this place."""
        return [print_tree(self._styles[place], tree) for tree in trees]
