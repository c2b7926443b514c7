import inspect
import unittest

from pressalike import errors
from pressalike.errors import PressError

LISTED = {
    "BadOutline": ("letter", "ring"),
    "NoInk": ("letter",),
    "BadFace": ("count",),
    "BadWord": ("word",),
    "BadPiece": ("path",),
    "BadText": ("at",),
    "BadGrammar": ("kind",),
    "NotOfGrammar": ("path",),
    "BadEdit": ("path",),
    "BadRule": ("place",),
    "BadStyle": ("field",),
    "BadLine": ("number",),
    "BadStanding": ("standing",),
    "NoRank": ("deed",),
    "NotEndless": ("deed",),
    "NotSeam": ("place",),
    "BadRun": ("number",),
    "BadChange": ("place",),
}


class TestErrors(unittest.TestCase):
    def test_base(self):
        self.assertEqual(PressError.__bases__, (ValueError,))

    def test_all_stand_directly_under_the_base(self):
        found = {
            name: thing for name, thing in vars(errors).items()
            if inspect.isclass(thing) and thing is not PressError
        }
        self.assertEqual(set(found), set(LISTED))
        for name, thing in found.items():
            self.assertEqual(thing.__bases__, (PressError,), name)
            self.assertEqual(thing.__module__, "pressalike.errors")

    def test_arguments_in_order(self):
        for name, attributes in LISTED.items():
            error = getattr(errors, name)
            self.assertEqual(tuple(inspect.signature(error).parameters), attributes)
            given = [object() for _ in attributes]
            made = error(*given)
            self.assertEqual(list(vars(made)), list(attributes), name)
            for attribute, value in zip(attributes, given):
                self.assertIs(getattr(made, attribute), value)

    def test_texts_do_not_fail(self):
        endless = []
        for _ in range(5000):
            endless = [endless]
        for name in ("BadFace", "BadWord", "BadRule", "BadStanding", "BadRun", "BadChange"):
            self.assertTrue(str(getattr(errors, name)(endless)))

    def test_caught_as_value_error(self):
        with self.assertRaises(ValueError):
            raise errors.BadText(3)
