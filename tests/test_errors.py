import unittest

from afterleaves import errors
from afterleaves.errors import AfterError, BadForm, NotThere

FORMS = {
    "BadLabel": ("label",), "BadFormat": ("word",), "BadText": (), "BadBlock": ("block",), "BadOrder": ("place",),
    "BadLine": ("line", "word"), "BadEdit": (), "BadPlace": ("place",), "BadLeaf": ("word",), "BadBook": (),
    "BadPages": (), "BadPrice": ("word",), "BadErrata": (), "BadCorrection": ("place",), "BadPacket": (),
    "BadStretch": ("place",), "BadArchive": ("word",), "BadEntry": (),
}
ABSENCES = {
    "Unknown": ("name",), "Unfit": ("name",), "Lacking": ("block", "item"), "Backward": ("block", "item"),
    "NoPointer": ("place",), "Unreached": (),
}
OTHERS = {
    "TooMany": ("word",), "Twice": ("name",), "NoRoom": (), "NoBook": (), "Unlawful": ("edition", "fault"),
    "Unlike": ("label",), "Torn": ("line",),
}


class ErrorsTest(unittest.TestCase):
    def check(self, table, base):
        for name, attributes in table.items():
            with self.subTest(name):
                kind = getattr(errors, name)
                self.assertEqual(kind.__bases__, (base,))
                self.assertEqual(kind.__module__, "afterleaves.errors")
                values = [object() for _ in attributes]
                made = kind(*values)
                named = kind(**dict(zip(attributes, values)))
                for attribute, value in zip(attributes, values):
                    self.assertIs(getattr(made, attribute), value)
                    self.assertIs(getattr(named, attribute), value)

    def test_bases(self):
        self.assertEqual(AfterError.__bases__, (ValueError,))
        self.assertEqual(BadForm.__bases__, (AfterError,))
        self.assertEqual(NotThere.__bases__, (AfterError,))

    def test_bad_forms(self):
        self.check(FORMS, BadForm)

    def test_things_that_are_not_there(self):
        self.check(ABSENCES, NotThere)

    def test_others(self):
        self.check(OTHERS, AfterError)

    def test_there_are_no_further_errors(self):
        told = {"AfterError", "BadForm", "NotThere", *FORMS, *ABSENCES, *OTHERS}
        there = {name for name, thing in vars(errors).items() if isinstance(thing, type)}
        self.assertEqual(there, told)

    def test_a_message_tells_the_values(self):
        self.assertEqual(str(errors.BadLine(3, 4)), "(3, 4)")


if __name__ == "__main__":
    unittest.main()
