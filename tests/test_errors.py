"""The errors of the interface."""

import unittest

from tornreads import errors

FIELDS = {
    "Unfit": (), "BadText": ("place",), "BadCounter": ("error",), "NoRun": ("place",), "TooMany": ("limit",),
    "NothingToUndo": (), "TooManyEdits": (), "BadLog": ("place",),
}


class ErrorsTest(unittest.TestCase):

    def test_kinds(self):
        self.assertEqual(errors.TornError.__bases__, (ValueError,))
        self.assertEqual(errors.TornError.__module__, "tornreads.errors")
        for name in FIELDS:
            with self.subTest(name=name):
                kind = getattr(errors, name)
                self.assertEqual(kind.__name__, name)
                self.assertEqual(kind.__bases__, (errors.TornError,))
                self.assertEqual(kind.__module__, "tornreads.errors")

    def test_none_lies_under_another(self):
        for name in FIELDS:
            for other in FIELDS:
                with self.subTest(name=name, other=other):
                    under = issubclass(getattr(errors, name), getattr(errors, other))
                    self.assertEqual(under, name == other)

    def test_caught_by_all_names(self):
        for name, fields in FIELDS.items():
            for caught in (getattr(errors, name), errors.TornError, ValueError):
                with self.subTest(name=name, caught=caught):
                    with self.assertRaises(caught):
                        raise getattr(errors, name)(*[0 for field in fields])

    def test_keep_what_they_are_made_with(self):
        for value in (0, 3, True, None, "", "form", ("base", 1), ["a", {"b": ()}], {}, 10 ** 400, object()):
            for name, fields in FIELDS.items():
                with self.subTest(name=name, value=value):
                    kind = getattr(errors, name)
                    by_place = kind(*[value for field in fields])
                    by_name = kind(**{field: value for field in fields})
                    for error in (by_place, by_name):
                        self.assertEqual(tuple(vars(error)), fields)
                        for field in fields:
                            self.assertIs(getattr(error, field), value)

    def test_each_keeps_its_own(self):
        one, other = errors.NoRun(1), errors.NoRun(place=2)
        self.assertEqual((one.place, other.place), (1, 2))


if __name__ == "__main__":
    unittest.main()
