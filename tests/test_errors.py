"""The error classes and what each stands under."""

import unittest

from heraldways import errors


class ErrorClasses(unittest.TestCase):

    def test_any_refusal_is_a_value_error(self):
        self.assertEqual(errors.GuildError.__bases__, (ValueError,))

    def test_each_refusal_stands_under_guild_error(self):
        names = ["NoHouse", "NoWay", "WayThere", "NoRoad", "NoLetter", "TooMany", "BadNote"]
        for name in names:
            with self.subTest(name=name):
                self.assertEqual(getattr(errors, name).__bases__, (errors.GuildError,))

    def test_the_refusals_are_different_classes(self):
        kinds = [errors.NoHouse, errors.NoWay, errors.WayThere, errors.NoRoad,
                 errors.NoLetter, errors.TooMany, errors.BadNote]
        self.assertEqual(len(set(kinds)), 7)


if __name__ == "__main__":
    unittest.main()
