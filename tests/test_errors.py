"""The classes of the refusals: point 2 and the interface."""

import unittest

from watchedrun import errors

BASES = {
    "NoProgram": ValueError, "NoPart": KeyError, "NoRow": IndexError, "TooLong": OverflowError,
    "Unsound": ValueError, "NoNumbers": ValueError, "NoHook": LookupError, "TooMany": OverflowError,
    "Busy": RuntimeError, "NoText": ValueError, "NoWord": ValueError, "NoMark": KeyError,
}

FIELDS = {
    "NoPart": ("name",), "NoRow": ("row",), "TooLong": ("many",), "Unsound": ("part", "paper"),
    "NoNumbers": ("many",), "NoText": ("at",), "NoMark": ("name",),
}


class ErrorsTest(unittest.TestCase):

    def test_each_class_stands_straight_under_its_own(self):
        for name, base in BASES.items():
            with self.subTest(name):
                self.assertEqual(getattr(errors, name).__bases__, (base,))
                self.assertEqual(getattr(errors, name).__module__, "watchedrun.errors")

    def test_none_stands_under_another_one(self):
        for name in BASES:
            for other in BASES:
                if name != other:
                    self.assertFalse(issubclass(getattr(errors, name), getattr(errors, other)), (name, other))

    def test_fields_are_set_when_an_error_is_made(self):
        for name, fields in FIELDS.items():
            with self.subTest(name):
                told = ["main", ("lacks", "main", [0])][:len(fields)]
                error = getattr(errors, name)(*told)
                self.assertEqual([getattr(error, field) for field in fields], told)
                self.assertIsInstance(str(error), str)

    def test_classes_without_fields_take_words(self):
        for name in BASES:
            if name not in FIELDS:
                self.assertIsInstance(str(getattr(errors, name)("words")), str)

    def test_a_list_in_a_field_is_new(self):
        for name in ("NoPart", "NoRow", "NoMark"):
            with self.subTest(name):
                twice = [1]
                handed = [twice, (twice, [2, True]), None]
                told = getattr(getattr(errors, name)(handed), FIELDS[name][0])
                self.assertEqual(repr(told), "[[1], ([1], [2, True]), None]")
                self.assertIsNot(told[0], told[1][0])
                twice.append(5)
                handed[1][1].clear()
                handed.pop()
                self.assertEqual(repr(told), "[[1], ([1], [2, True]), None]")
                told[0].append(7)
                self.assertEqual(handed, [[1, 5], ([1, 5], [])])

    def test_a_list_in_a_paper_is_new(self):
        walk = [0, 1]
        told = errors.Unsound("main", ("two", "main", walk, walk)).paper
        walk.append(2)
        self.assertEqual(told, ("two", "main", [0, 1], [0, 1]))
        told[2].append(3)
        self.assertEqual(told, ("two", "main", [0, 1, 3], [0, 1]))


if __name__ == "__main__":
    unittest.main()
