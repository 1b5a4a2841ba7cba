"""Moments: points 15 and 26, of a moment alone."""

import copy
import itertools
import unittest

from watchedrun.moments import KINDS, Moment

FIELDS = ("kind", "depth", "part", "row", "worth")


class KindsTest(unittest.TestCase):

    def test_the_five_kinds_in_order(self):
        self.assertEqual(KINDS, ("call", "row", "back", "fault", "caught"))
        self.assertIs(type(KINDS), tuple)


class FieldsTest(unittest.TestCase):

    def fields(self, moment):
        return tuple(getattr(moment, field) for field in FIELDS)

    def test_fields_are_what_was_handed_in(self):
        for told in (
            ("back", 2, "main", 7, -5), ("call", 1, "a", 0, None), ("fault", 12, "abcdefgh", 59, 0),
            ("", 0, "", -1, 10 ** 39), ("another kind", -10 ** 39, "A part: = 1", 10 ** 39, -10 ** 39),
        ):
            self.assertEqual(repr(self.fields(Moment(*told))), repr(told))

    def test_without_a_worth(self):
        self.assertEqual(self.fields(Moment("row", 3, "main", 4)), ("row", 3, "main", 4, None))
        self.assertIsNone(Moment("row", 3, "main", 4).worth)

    def test_each_moment_has_its_own_fields(self):
        one, other = Moment("row", 3, "main", 4), Moment("row", 3, "main", 4)
        one.row = 5
        self.assertEqual((one.row, other.row), (5, 4))


class EqualTest(unittest.TestCase):

    def test_equal_where_all_five_are(self):
        for told in (("back", 2, "main", 7, -5), ("call", 1, "main", 0, None), ("caught", 3, "b", 1, 0)):
            one, other = Moment(*told), Moment(*copy.deepcopy(told))
            self.assertIs(one == other, True)
            self.assertIs(one != other, False)
            self.assertIs(one == one, True)
        self.assertIs(Moment("call", 1, "main", 0) == Moment("call", 1, "main", 0, None), True)

    def test_unlike_in_each_of_the_fields(self):
        told = ("back", 2, "main", 7, -5)
        others = (("row", "backs", "", "Back"), (1, 3, -2, 0), ("mai", "mains", "", "Main"), (6, 8, -7, 0), (None, 0, 5, -4, -6))
        for at, wrong in enumerate(others):
            for thing in wrong:
                other = Moment(*told[:at], thing, *told[at + 1:])
                self.assertIs(Moment(*told) == other, False, other)
                self.assertIs(other == Moment(*told), False, other)
                self.assertIs(Moment(*told) != other, True, other)

    def test_no_worth_is_not_0(self):
        self.assertIs(Moment("row", 1, "a", 0, 0) == Moment("row", 1, "a", 0), False)
        self.assertIs(Moment("row", 1, "a", 0) == Moment("row", 1, "a", 0, 0), False)

    def test_fields_are_not_exchanged(self):
        self.assertIs(Moment("a", 1, "b", 2) == Moment("b", 1, "a", 2), False)
        self.assertIs(Moment("a", 1, "b", 2) == Moment("a", 2, "b", 1), False)
        self.assertIs(Moment("a", 1, "b", 2, 3) == Moment("a", 1, "b", 3, 2), False)

    def test_equal_to_nothing_else(self):
        class Alike:
            def __init__(self):
                self.kind, self.depth, self.part, self.row, self.worth = "back", 2, "main", 7, -5

        moment = Moment("back", 2, "main", 7, -5)
        for thing in (None, True, False, 0, 2, -5, "", "back", str(moment), repr(moment), [], (), [moment], (moment,),
                      ("back", 2, "main", 7, -5), ["back", 2, "main", 7, -5], {}, object(), Moment, Alike()):
            self.assertIs(moment == thing, False)
            self.assertIs(thing == moment, False)
            self.assertIs(moment != thing, True)

    def test_many_pairs(self):
        told = list(itertools.product(("row", "back"), (1, 2), ("a", "b"), (0, 1), (None, 0, 1)))
        for one in told:
            for other in told:
                self.assertIs(Moment(*one) == Moment(*other), one == other)


class TextTest(unittest.TestCase):

    def check(self, told, text, shown):
        moment = Moment(*told)
        for _ in range(2):
            self.assertEqual(str(moment), text)
            self.assertEqual(repr(moment), shown)
            self.assertEqual(f"{moment}", text)

    def test_with_a_worth(self):
        self.check(("back", 2, "main", 7, -5), "2 back main:7 = -5", "Moment('back', 2, 'main', 7, -5)")
        self.check(("fault", 12, "help", 59, 10 ** 12), "12 fault help:59 = 1000000000000",
                   "Moment('fault', 12, 'help', 59, 1000000000000)")
        self.check(("caught", 1, "a", 0, 0), "1 caught a:0 = 0", "Moment('caught', 1, 'a', 0, 0)")

    def test_without_a_worth(self):
        self.check(("call", 1, "main", 0), "1 call main:0", "Moment('call', 1, 'main', 0, None)")
        self.check(("row", 3, "b", 10, None), "3 row b:10", "Moment('row', 3, 'b', 10, None)")

    def test_of_any_texts_and_numbers(self):
        self.check(("", 0, "", 0), "0  :0", "Moment('', 0, '', 0, None)")
        self.check(("a b", -1, "c:d", -2, -3), "-1 a b c:d:-2 = -3", "Moment('a b', -1, 'c:d', -2, -3)")
        self.check(("it's", 1, 'say "a"', 2, 3), "1 it's say \"a\":2 = 3", "Moment(\"it's\", 1, 'say \"a\"', 2, 3)")
        self.check(("\\", 10 ** 39, "~", -10 ** 39), f"{10 ** 39} \\ ~:-{10 ** 39}",
                   f"Moment('\\\\', {10 ** 39}, '~', -{10 ** 39}, None)")

    def test_a_repr_makes_the_same_moment(self):
        for told in (("back", 2, "main", 7, -5), ("call", 1, "main", 0, None), ("it's", 1, "{}", 2, 0)):
            self.assertEqual(eval(repr(Moment(*told)), {"Moment": Moment}), Moment(*told))


if __name__ == "__main__":
    unittest.main()
