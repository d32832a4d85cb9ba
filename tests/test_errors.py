"""The error classes, of "The interface", worksward/errors.py."""

import unittest

from worksward import errors

FIELDS = {"BadWorks": "part", "BadWish": "part", "BadPost": "part", "BadWire": "part", "BadLog": "part",
          "BadPaper": "part", "BadText": "line", "OutOfPlace": None, "Nothing": None, "TooMany": "most"}
BASES = {"Nothing": LookupError, "TooMany": OverflowError}
THINGS = ["form", 3, None, (1, 2), [1], {}, True, object(), "", b"a", 1.5, (("a",),), ValueError]


class Errors(unittest.TestCase):
    def test_each_stands_straight_under_its_base(self):
        for name in FIELDS:
            shape = getattr(errors, name)
            self.assertEqual(shape.__bases__, (BASES.get(name, ValueError),))
            self.assertEqual(shape.__module__, "worksward.errors")

    def test_none_is_below_another_one(self):
        for name in FIELDS:
            for other in FIELDS:
                below = issubclass(getattr(errors, name), getattr(errors, other))
                self.assertEqual(below, name == other)

    def test_fields_of_any_things(self):
        for name, field in FIELDS.items():
            shape = getattr(errors, name)
            for thing in THINGS:
                for error in (shape(thing), shape(**{field or "text": thing})):
                    self.assertIsInstance(error, shape)
                    if field:
                        self.assertIs(getattr(error, field), thing)
                        with self.assertRaises(shape):
                            raise error

    def test_each_takes_one_argument(self):
        for name in FIELDS:
            for args in ((), (1, 2)):
                with self.assertRaises(TypeError):
                    getattr(errors, name)(*args)


if __name__ == "__main__":
    unittest.main()
