import unittest

from everygust import errors

KEPT = {
    "BadShape": "path", "BadText": "place", "BadWish": "number", "BadGust": "number", "BadAct": "word",
    "BadAsk": "word"}


class TestErrors(unittest.TestCase):
    def test_classes_and_bases(self):
        for name in ("BadShape", "BadText", "TooGreat", "Bare", "Unbounded", "BadWish", "BadGust", "BadAct", "BadAsk",
                     "NothingDone"):
            told = getattr(errors, name)
            self.assertEqual(told.__bases__, (errors.GustError,))
            self.assertFalse(issubclass(told, LookupError))
        self.assertEqual(errors.GustError.__bases__, (ValueError,))
        self.assertEqual(errors.NameMissing.__bases__, (LookupError,))
        self.assertEqual(errors.UnknownName.__bases__, (errors.NameMissing,))
        self.assertFalse(issubclass(errors.UnknownName, ValueError))

    def test_of_no_other_class(self):
        made = [errors.BadShape(()), errors.BadText(1), errors.TooGreat(), errors.Bare(), errors.Unbounded(),
                errors.BadWish(1), errors.BadGust(1), errors.BadAct("a"), errors.BadAsk("a"), errors.NothingDone(),
                errors.UnknownName("a")]
        for one in made:
            for other in made:
                self.assertEqual(isinstance(one, type(other)), one is other)

    def test_what_is_passed_is_kept(self):
        for name, attribute in KEPT.items():
            if name != "BadShape":
                for value in (0, 3, "word", "", None):
                    self.assertEqual(getattr(getattr(errors, name)(value), attribute), value)
        told = ["a", {}]
        self.assertIs(errors.UnknownName(told).name, told)

    def test_a_path_is_kept_as_a_tuple(self):
        told = [1, 2]
        error = errors.BadShape(told)
        told.append(3)
        self.assertEqual(error.path, (1, 2))
        self.assertIs(type(error.path), tuple)
        self.assertEqual(errors.BadShape(()).path, ())
        self.assertEqual(errors.BadShape((0, 4)).path, (0, 4))

    def test_raised_and_caught_by_base(self):
        with self.assertRaises(ValueError):
            raise errors.Bare()
        with self.assertRaises(LookupError):
            raise errors.UnknownName("x")
