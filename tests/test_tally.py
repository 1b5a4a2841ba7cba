"""Tallies: point 23."""

import random
import unittest

from tests.samples import any_things, random_program
from watchedrun.moments import KINDS, Moment
from watchedrun.plain import walked
from watchedrun.tally import Tally, tallied
from watchedrun.watch import Watch

PROGRAM = (
    ("main", ("n",), (("get", "n"), ("if", 4), ("put", 0), ("back",), ("get", "n"), ("put", 1), ("less",),
                      ("call", "main"), ("say",),
                      ("try", 12), ("call", "sub"), ("back",), ("back",))),
    ("sub", (), (("put", 7), ("throw",))),
)


def call(depth, part):
    return Moment("call", depth, part, 0)


class TallyTest(unittest.TestCase):

    def check(self, tally, rows=(), calls=(), faults=(), deepest=0, many=0):
        self.assertEqual(repr((tally.rows(), tally.calls(), tally.faults(), tally.deepest(), len(tally))),
                         repr((list(rows), list(calls), list(faults), deepest, many)))

    def test_of_nothing(self):
        self.check(Tally())
        self.check(tallied([]))
        self.assertEqual(Tally(), tallied([]))

    def test_rows(self):
        told = [Moment("row", 1, "b", 2), Moment("row", 1, "a", 10), Moment("row", 3, "b", 2), Moment("row", 1, "a", 9),
                Moment("row", 2, "b", 0), Moment("row", 1, "b", 2)]
        self.check(tallied(told), rows=(("a", 9, 1), ("a", 10, 1), ("b", 0, 1), ("b", 2, 3)), deepest=3, many=6)

    def test_only_moments_of_the_kind_row_are_rows(self):
        for kind in ("call", "back", "fault", "caught"):
            self.assertEqual(tallied([Moment(kind, 1, "a", 0, 5)]).rows(), [])

    def test_faults(self):
        told = [Moment("fault", 2, "a", 0, -3), Moment("fault", 1, "b", 7, -3), Moment("fault", 1, "a", 0, 5),
                Moment("fault", 1, "a", 0, 0),
                Moment("caught", 1, "a", 0, 5), Moment("back", 1, "a", 0, 5), Moment("fault", 4, "a", 0, -10)]
        self.check(tallied(told), faults=((-10, 1), (-3, 2), (0, 1), (5, 1)), deepest=4, many=7)

    def test_calls(self):
        told = [call(1, "main"), call(2, "b"), call(2, "a"), call(3, "a"), call(2, "b"), call(3, "b"), call(4, "b"),
                call(2, "b")]
        self.check(tallied(told), calls=(("", "main", 1), ("a", "a", 1), ("b", "b", 2), ("main", "a", 1),
                                         ("main", "b", 3)),
                   deepest=4, many=8)

    def test_calls_without_a_caller(self):
        self.check(tallied([call(3, "a")]), calls=(("", "a", 1),), deepest=3, many=1)
        self.check(tallied([call(3, "a"), call(2, "b"), call(3, "c"), call(5, "d"), call(1, "e")]),
                   calls=(("", "a", 1), ("", "b", 1), ("", "d", 1), ("", "e", 1), ("b", "c", 1)), deepest=5, many=5)

    def test_the_caller_is_the_last_one_of_one_depth_less(self):
        """Also where it has given back since, or where calls of other depths were told between."""
        told = [call(1, "a"), call(1, "b"), call(2, "x"), Moment("back", 1, "b", 3, 0), call(2, "y"), call(1, "c"),
                call(3, "z"), call(2, "w")]
        self.assertEqual(tallied(told).calls(), [("", "a", 1), ("", "b", 1), ("", "c", 1), ("b", "x", 1),
                                                 ("b", "y", 1), ("c", "w", 1), ("y", "z", 1)])
        told = [Moment("row", 1, "a", 0), Moment("back", 1, "a", 0, 1), Moment("fault", 1, "a", 0, 1),
                Moment("caught", 1, "a", 0, 1), call(2, "b")]
        self.assertEqual(tallied(told).calls(), [("", "b", 1)])

    def test_moments_of_any_texts_and_numbers(self):
        told = [Moment("other", 9, "", -5, 3), Moment("row", 0, "Any Text", -7), Moment("call", 0, "x y", 3, 4),
                Moment("call", 1, "", 0),
                Moment("fault", 2, "", 0, 10 ** 30), Moment("", -4, "row", 10 ** 20)]
        self.check(tallied(told), rows=(("Any Text", -7, 1),), calls=(("", "x y", 1), ("x y", "", 1)),
                   faults=((10 ** 30, 1),),
                   deepest=9, many=6)

    def test_deepest(self):
        for kind in KINDS + ("other",):
            self.assertEqual(tallied([Moment(kind, 2, "a", 0, 1), Moment(kind, 5, "a", 0, 1),
                                      Moment(kind, 3, "a", 0, 1)]).deepest(), 5)
        self.assertEqual(tallied([Moment("row", -3, "a", 0)]).deepest(), -3)

    def test_an_ear_of_its_own(self):
        tally = Tally()
        ear, other = tally.ear(), tally.ear()
        self.assertEqual(type(ear), type(lambda: None))
        self.assertIsNone(ear(Moment("row", 1, "a", 0)))
        other(Moment("row", 2, "a", 0))
        self.check(tally, rows=(("a", 0, 2),), deepest=2, many=2)
        self.check(Tally())

    def test_what_is_done_to_a_moment_later_changes_nothing(self):
        one = Moment("row", 1, "a", 0)
        tally = tallied([one])
        one.kind, one.depth, one.part, one.row = "call", 7, "b", 9
        self.check(tally, rows=(("a", 0, 1),), deepest=1, many=1)

    def test_lists_are_new(self):
        told = [Moment("row", 1, "a", 0), call(1, "a"), Moment("fault", 1, "a", 0, 4)]
        kept = list(told)
        tally = tallied(told)
        self.assertEqual(told, kept)
        told.clear()
        for _ in range(2):
            rows, calls, faults = tally.rows(), tally.calls(), tally.faults()
            self.assertEqual((rows, calls, faults), ([("a", 0, 1)], [("", "a", 1)], [(4, 1)]))
            for one in (rows, calls, faults):
                one.append(None)
                one[0] = 3

    def test_equal(self):
        told = [call(1, "a"), Moment("row", 1, "a", 0), Moment("fault", 1, "a", 0, 4), Moment("back", 2, "a", 0, 1)]
        self.assertIs(tallied(told) == tallied(told[::-1]), True)
        self.assertIs(tallied(told) != tallied(told[::-1]), False)
        for more in (Moment("row", 1, "a", 0), Moment("row", 1, "a", 1), call(1, "a"), call(2, "a"),
                     Moment("fault", 1, "a", 0, 4),
                     Moment("fault", 1, "a", 0, 5), Moment("back", 1, "a", 0, 5), Moment("back", 3, "a", 0, 5),
                     Moment("row", 1, "b", 0)):
            self.assertIs(tallied(told + [more]) == tallied(told), False)
            self.assertIs(tallied(told) != tallied(told + [more]), True)
        for one, other in (
            (Moment("row", 1, "a", 0), Moment("row", 1, "a", 1)), (Moment("row", 1, "a", 0), Moment("row", 1, "b", 0)),
            (Moment("row", 1, "a", 0), Moment("row", 2, "a", 0)), (call(1, "a"), call(1, "b")),
            (Moment("row", 1, "a", 0), call(1, "a")),
            (Moment("fault", 1, "a", 0, 4), Moment("fault", 1, "a", 0, 5)), (Moment("back", 1, "a", 0),
                                                                             Moment("fault", 1, "a", 0, 5)),
        ):
            self.assertNotEqual(tallied([one]), tallied([other]))
        for one, other in ((Moment("back", 1, "a", 0, 4), Moment("caught", 1, "b", 9, 5)),
                           (Moment("row", 1, "a", 0), Moment("row", 1, "a", 0, 9))):
            self.assertEqual(tallied([one]), tallied([other]))

    def test_against_other_things(self):
        tally = tallied([Moment("row", 1, "a", 0)])
        for thing in any_things() + [tally.rows(), 1, walked(PROGRAM, "sub"), Moment("row", 1, "a", 0), tally.ear()]:
            self.assertIs(tally == thing, False)
            self.assertIs(thing == tally, False)
            self.assertIs(tally != thing, True)

    def test_of_a_walk(self):
        trace = walked(PROGRAM, "main", (2,))
        tally = tallied(trace.moments())
        self.assertEqual(tally.calls(), [("", "main", 1), ("main", "main", 2), ("main", "sub", 2)])
        self.assertEqual((tally.faults(), tally.deepest(), len(tally)), ([(7, 4)], 3, len(trace.moments())))
        self.assertEqual(sum(many for _, _, many in tally.rows()), len(trace))

    def test_as_an_ear_of_a_watch(self):
        source = random.Random(40)
        for _ in range(60):
            program = random_program(source)
            watch, tally = Watch(program), Tally()
            watch.listen(tally.ear())
            watch.begin("main", (3, 4))
            while watch.end() is None and len(tally) < 150:
                watch.run(most=7)
            trace = walked(program, "main", (3, 4), most=sum(many for _, _, many in tally.rows()))
            self.assertEqual(tally, tallied(trace.moments()))


if __name__ == "__main__":
    unittest.main()
