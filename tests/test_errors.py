import copy
import pickle
import unittest

from farthestcut import errors
from helper import ALL_NAMES, FIELDS, PLAIN


class TestErrors(unittest.TestCase):
    def made(self, name):
        if name in PLAIN:
            return getattr(errors, name)("some words")
        if name == "NoCases":
            return errors.NoCases([0, 2])
        return getattr(errors, name)(*range(3, 3 + len(FIELDS[name])))

    def test_all_are_there(self):
        there = [name for name in vars(errors) if isinstance(getattr(errors, name), type)]
        self.assertEqual(sorted(there), sorted(ALL_NAMES + ("CutError",)))

    def test_each_straight_under_cut_error(self):
        self.assertEqual(errors.CutError.__bases__, (ValueError,))
        for name in ALL_NAMES:
            with self.subTest(name):
                self.assertEqual(getattr(errors, name).__bases__, (errors.CutError,))

    def test_each_is_of_none_of_the_others(self):
        for name in ALL_NAMES:
            error = self.made(name)
            for other in ALL_NAMES:
                with self.subTest(name=name, other=other):
                    self.assertEqual(isinstance(error, getattr(errors, other)), name == other)

    def test_each_is_raised_and_taken(self):
        for name in ALL_NAMES:
            for above in (getattr(errors, name), errors.CutError, ValueError):
                with self.subTest(name=name, above=above):
                    with self.assertRaises(above):
                        raise self.made(name)

    def test_words(self):
        for name in PLAIN:
            with self.subTest(name):
                self.assertEqual(str(self.made(name)), "some words")

    def test_fields(self):
        error = errors.NoWeb("ties", 4)
        self.assertEqual((error.part, error.number), ("ties", 4))
        error = errors.NoWeb("web", None)
        self.assertEqual((error.part, error.number), ("web", None))
        for name in ("NoWay", "NoFlow", "NoSpread", "NoMix"):
            self.assertEqual(getattr(errors, name)(5).at, 5)
            self.assertIsNone(getattr(errors, name)(None).at)
        self.assertEqual(errors.NoCases([1, 0]).path, [1, 0])
        self.assertEqual(errors.NoCases([]).path, [])
        self.assertEqual(errors.Unbalanced("abc").place, "abc")
        self.assertEqual(errors.NoText(7).row, 7)

    def test_the_path_is_the_askers_own(self):
        path = [1, 0]
        error = errors.NoCases(path)
        words = str(error)
        path.append(2)
        self.assertEqual(error.path, [1, 0])
        error.path.append(3)
        self.assertEqual(path, [1, 0, 2])
        self.assertEqual(str(error), words)

    def test_copies_have_the_fields(self):
        for name in ALL_NAMES:
            for other in (copy.copy(self.made(name)), pickle.loads(pickle.dumps(self.made(name)))):
                with self.subTest(name):
                    self.assertEqual(vars(other), vars(self.made(name)))
                    self.assertEqual(str(other), str(self.made(name)))


if __name__ == "__main__":
    unittest.main()
