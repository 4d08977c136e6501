import unittest

from peekproof import errors
from peekproof.errors import Missing, PeekError
from tests.support import ANY_VALUES

PARTS = ("BadRatio BadCrowd BadTable BadChances BadWatch BadStudy BadWorths BadWorld BadCosts BadNest BadBoard "
         "BadNumbers BadBet BadShelf BadHall BadLog BadStory BadPaper").split()
FIELDS = {**{name: ("part",) for name in PARTS}, "Missing": ("name",), "Twice": ("name",), "UnlikeSigns": ("label",),
          "UnlikeArms": ("one", "other"), "Unsure": ("trap",), "Unfair": ("state", "corner"), "NoPurse": ("word",),
          "NotWithin": ("name", "row"), "Over": ("name",), "Refuted": ("name", "label"), "Nothing": (),
          "TooMany": ("what", "most"), "BadText": ("line", "word"), "BadLine": ("line", "error")}
BELOW_MISSING = ("NoSign", "NoState", "NoEnd", "NoArm", "NoStudy")


class ErrorsTest(unittest.TestCase):
    def test_all_errors_are_there_and_no_others(self):
        found = {name for name, value in vars(errors).items() if isinstance(value, type)}
        self.assertEqual(found, {"PeekError", *FIELDS, *BELOW_MISSING})

    def test_places_below_the_base(self):
        self.assertEqual(PeekError.__bases__, (ValueError,))
        for name in FIELDS:
            self.assertEqual(getattr(errors, name).__bases__, (PeekError,), name)
        for name in BELOW_MISSING:
            self.assertEqual(getattr(errors, name).__bases__, (Missing,), name)

    def test_fields_by_place_and_by_name(self):
        for name, fields in {**FIELDS, **{name: ("name",) for name in BELOW_MISSING}}.items():
            for value in ANY_VALUES:
                told = [(value, field) for field in fields]
                one = getattr(errors, name)(*told)
                two = getattr(errors, name)(**dict(zip(fields, told)))
                for error in (one, two):
                    self.assertEqual(list(vars(error)), list(fields))
                    for field, item in zip(fields, told):
                        self.assertIs(getattr(error, field), item)

    def test_each_can_be_raised_and_shown(self):
        for name, fields in FIELDS.items():
            with self.assertRaises(ValueError) as caught:
                raise getattr(errors, name)(*fields)
            self.assertIsInstance(str(caught.exception), str)


if __name__ == "__main__":
    unittest.main()
