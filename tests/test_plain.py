"""The plain walk and its traces: points 12 to 15, and 26 of a trace."""

import copy
import random
import unittest

from tests.machine import run_machine
from tests.reference import all_standings, run_rows
from tests.samples import any_things, random_program, very_deep
from watchedrun.errors import NoNumbers, NoPart, NoProgram, Unsound
from watchedrun.moments import KINDS, Moment
from watchedrun.plain import MOST_ROWS, Trace, walked

END = (("put", 0), ("back",))
PLAIN = (
    ("main", ("n",), (("try", 5), ("get", "n"), ("call", "sub"), ("done",), ("back",), ("say",), *END)),
    ("sub", ("x",), (("get", "x"), ("if", 4), ("put", 7), ("throw",), ("get", "x"), ("back",))),
)
RING = (("main", (), (("put", 3), ("say",), ("go", 0))),)
DEEP = (("main", ("n",), (("get", "n"), ("call", "main"), ("back",))),)


def moments(*told):
    return [Moment(*one) for one in told]


class WalkTest(unittest.TestCase):

    def walks(self, program, part, numbers, told, said, end, **more):
        trace = walked(program, part, numbers, **more)
        self.assertIsInstance(trace, Trace)
        self.assertEqual(repr(trace.moments()), repr(moments(*told)))
        self.assertEqual(repr(trace.said()), repr(list(said)))
        self.assertEqual(repr(trace.end()), repr(end))
        self.assertEqual(len(trace), len([one for one in told if one[0] == "row"]))
        self.assertEqual(str(trace), "\n".join(str(one) for one in moments(*told)))

    def test_with_each_kind_but_faults(self):
        self.walks(PLAIN, "main", (5,), (
            ("call", 1, "main", 0), ("row", 1, "main", 0), ("row", 1, "main", 1), ("row", 1, "main", 2),
            ("call", 2, "sub", 0), ("row", 2, "sub", 0), ("row", 2, "sub", 1), ("row", 2, "sub", 4),
            ("row", 2, "sub", 5),
            ("back", 2, "sub", 5, 5), ("row", 1, "main", 3), ("row", 1, "main", 4), ("back", 1, "main", 4, 5),
        ), (), ("back", 5))

    def test_with_faults_and_caught(self):
        self.walks(PLAIN, "main", (0,), (
            ("call", 1, "main", 0), ("row", 1, "main", 0), ("row", 1, "main", 1), ("row", 1, "main", 2),
            ("call", 2, "sub", 0), ("row", 2, "sub", 0), ("row", 2, "sub", 1), ("row", 2, "sub", 2),
            ("row", 2, "sub", 3),
            ("fault", 2, "sub", 3, 7), ("fault", 1, "main", 2, 7), ("caught", 1, "main", 2, 7),
            ("row", 1, "main", 5), ("row", 1, "main", 6), ("row", 1, "main", 7), ("back", 1, "main", 7, 0),
        ), (7,), ("back", 0))
        self.walks(PLAIN, "sub", [0], (
            ("call", 1, "sub", 0), ("row", 1, "sub", 0), ("row", 1, "sub", 1), ("row", 1, "sub", 2),
            ("row", 1, "sub", 3),
            ("fault", 1, "sub", 3, 7),
        ), (), ("fault", 7))

    def test_most(self):
        """So many rows, and what comes of the last one; the whole walk where it ends with that row."""
        whole = walked(PLAIN, "main", (0,))
        self.assertEqual(len(whole), 10)
        rows = [at for at, one in enumerate(whole.moments()) if one.kind == "row"]
        for most in range(0, 13):
            trace = walked(PLAIN, "main", (0,), most=most)
            self.assertEqual(len(trace), min(most, 10))
            cut = rows[most] if most < 10 else len(whole.moments())
            self.assertEqual(trace.moments(), whole.moments()[:cut], most)
            self.assertEqual(trace.said(), [7] if most >= 8 else [])
            self.assertEqual(trace.end(), ("back", 0) if most >= 10 else None)
            self.assertEqual(trace == whole, most >= 10)

    def test_most_is_none(self):
        self.walks(PLAIN, "main", (0,), (("call", 1, "main", 0),), (), None, most=0)
        self.walks(RING, "main", (), (("call", 1, "main", 0),), (), None, most=0)

    def test_what_comes_of_the_last_row(self):
        self.walks(PLAIN, "main", (0,), (
            ("call", 1, "main", 0), ("row", 1, "main", 0), ("row", 1, "main", 1), ("row", 1, "main", 2),
            ("call", 2, "sub", 0),
        ), (), None, most=3)
        told = walked(PLAIN, "main", (0,), most=7).moments()[-4:]
        self.assertEqual([str(one) for one in told], [
            "2 row sub:3", "2 fault sub:3 = 7", "1 fault main:2 = 7", "1 caught main:2 = 7"])

    def test_a_ring_without_an_end(self):
        self.assertEqual(MOST_ROWS, 200)
        for most in (0, 1, 2, 199, 200, 201, 3000):
            trace = walked(RING, "main", (), most=most)
            self.assertEqual((len(trace), trace.end()), (most, None))
            self.assertEqual(trace.said(), [3] * ((most + 1) // 3))
            self.assertEqual(len(trace.moments()), most + 1)
        self.assertEqual(len(walked(RING, "main")), 200)
        self.assertEqual(walked(RING, "main"), walked(RING, "main", (), most=200))

    def test_just_as_many_rows_as_there_are_by_itself(self):
        again = (("get", "n"), ("put", 1), ("less",), ("set", "n"), ("go", 0))
        loop = (("main", ("n",), (("get", "n"), ("if", 4), ("put", 0), ("back",), *again)),)
        # Four rows at last, seven for each time: 200 is 4 and 28 times 7.
        for many, done, end in ((27, 193, ("back", 0)), (28, 200, ("back", 0)), (29, 200, None)):
            trace = walked(loop, "main", (many,))
            self.assertEqual((len(trace), trace.end()), (done, end))
            self.assertEqual(walked(loop, "main", (many,), most=done - 1).end(), None)

    def test_twelve_frames(self):
        trace = walked(DEEP, "main", (4,))
        told = trace.moments()
        self.assertEqual([one.depth for one in told if one.kind == "call"], list(range(1, 13)))
        self.assertEqual([str(one) for one in told if one.kind == "fault"],
                         [f"{depth} fault main:1 = -4" for depth in range(12, 0, -1)])
        self.assertEqual((trace.end(), len(trace)), (("fault", -4), 24))

    def test_numbers_in_a_tuple_and_in_a_list(self):
        program = (("main", ("z", "m", "a"), (("get", "z"), ("say",), ("get", "m"), ("say",), ("get", "a"), ("say",),
                                              *END)),)
        numbers = [1, -2, 10 ** 12]
        self.assertEqual(walked(program, "main", numbers).said(), [1, -2, 10 ** 12])
        self.assertEqual(walked(program, "main", tuple(numbers)), walked(program, "main", numbers))
        self.assertEqual(walked(RING, "main", []), walked(RING, "main", ()))
        self.assertEqual(numbers, [1, -2, 10 ** 12])

    def test_against_a_second_writing(self):
        source = random.Random(30)
        for _ in range(150):
            program = random_program(source)
            known = {part[0]: all_standings(program, part[0]) for part in program}
            for name, numbers in (("main", (2, 0)), ("two", (5, -1)), ("watch", (1, 2, 3))):
                for most in (0, 3, 17, 200):
                    machine = run_machine(program, (), name, numbers, most, known)
                    trace = walked(program, name, numbers, most=most)
                    self.assertEqual(trace.moments(), moments(*[one[1:] for one in machine.heard]))
                    self.assertEqual((trace.said(), trace.end(), len(trace)), (machine.said, machine.end, machine.rows))

    def test_by_rows_alone(self):
        source = random.Random(31)
        plain = {"add", "less", "times", "over", "same", "below", "throw", "get", "put", "set", "say", "try", "done",
                 "go", "if", "call", "back"}
        for _ in range(300):
            program = random_program(source)
            if all(row[0] in plain for part in program[:3] for row in part[2]):
                trace = walked(program, "main", (1, 2), most=3000)
                if trace.end() is not None:
                    self.assertEqual((tuple(trace.said()), trace.end()), run_rows(program, "main", (1, 2)))


class TraceTest(unittest.TestCase):

    def test_told_lists_are_new(self):
        trace = walked(PLAIN, "main", (0,))
        told, said = trace.moments(), trace.said()
        shown = str(trace)
        told[0].kind, told[0].depth, told[1].worth = "other", 7, 3
        told.append(None)
        said.append(9)
        said[0] = 8
        self.assertEqual((trace.said(), trace.end(), str(trace), len(trace)), ([7], ("back", 0), shown, 10))
        self.assertEqual("\n".join(str(one) for one in trace.moments()), shown)
        self.assertEqual(trace, walked(PLAIN, "main", (0,)))
        self.assertIsNot(trace.moments(), trace.moments())
        self.assertIsNot(trace.moments()[0], trace.moments()[0])
        self.assertIsNot(trace.said(), trace.said())

    def test_equal(self):
        self.assertIs(walked(PLAIN, "main", (0,)) == walked(PLAIN, "main", [0]), True)
        self.assertIs(walked(PLAIN, "main", (0,)) != walked(PLAIN, "main", [0]), False)
        self.assertEqual(walked(PLAIN, "main", (0,), most=10), walked(PLAIN, "main", (0,), most=300))

    def test_unlike_in_what_was_said_alone(self):
        one, other = [(("main", (), (("put", number), ("say",), *END)),) for number in (1, 2)]
        self.assertEqual(walked(one, "main").moments(), walked(other, "main").moments())
        self.assertIs(walked(one, "main") == walked(other, "main"), False)
        self.assertIs(walked(one, "main") != walked(other, "main"), True)

    def test_unlike_in_moments_alone(self):
        one = (("main", (), END),)
        other = (("mainly", (), END),)
        longer = (("main", (), (("go", 1), *END)),)
        self.assertNotEqual(walked(one, "main"), walked(other, "mainly"))
        self.assertNotEqual(walked(one, "main"), walked(longer, "main"))
        hop = (("main", (), (("go", 2), ("back",), ("put", 0), ("back",))),)
        skip = (("main", (), (("go", 1), ("put", 0), ("back",))),)
        self.assertEqual(len(walked(hop, "main")), len(walked(skip, "main")))
        self.assertNotEqual(walked(hop, "main"), walked(skip, "main"))

    def test_unlike_in_rows_done_and_end(self):
        for most in range(0, 10):
            self.assertNotEqual(walked(PLAIN, "main", (0,), most=most), walked(PLAIN, "main", (0,)))
            self.assertNotEqual(walked(PLAIN, "main", (0,), most=most), walked(PLAIN, "main", (0,), most=most + 1))
        one, other = [(("main", (), (("put", number), ("back",))),) for number in (1, 2)]
        self.assertNotEqual(walked(one, "main"), walked(other, "main"))
        throwing = (("main", (), (("put", 1), ("throw",))),)
        self.assertNotEqual(walked(one, "main"), walked(throwing, "main"))

    def test_against_other_things(self):
        trace = walked(PLAIN, "main", (0,))
        for thing in any_things() + [str(trace), trace.moments(), trace.said(), trace.end(), 11,
                                     Moment("row", 1, "main", 0)]:
            self.assertIs(trace == thing, False)
            self.assertIs(thing == trace, False)
            self.assertIs(trace != thing, True)

    def test_two_traces_know_nothing_of_one_another(self):
        one, other = walked(PLAIN, "main", (0,)), walked(PLAIN, "main", (0,))
        one.moments().clear()
        one.said().clear()
        self.assertEqual(other.said(), [7])
        self.assertEqual(one, other)


class RefusalTest(unittest.TestCase):

    def test_refusals_in_their_order(self):
        unsound = (("main", (), END), ("wrong", ("a",), (("add",),)), ("worse", (), (("away",),)))
        for thing in any_things() + [very_deep(), unsound[:0], [PLAIN], list(PLAIN)]:
            for part, numbers in (("main", (0,)), (thing, thing)):
                with self.assertRaises(NoProgram):
                    walked(thing, part, numbers)
            for numbers in ((), thing):
                with self.assertRaises(Unsound) as caught:
                    walked(unsound, thing, numbers)
                self.assertEqual((caught.exception.part, caught.exception.paper), ("wrong", ("lacks", "wrong", [0])))
                with self.assertRaises(NoPart) as caught:
                    walked(PLAIN, thing, numbers)
                self.assertIs(type(caught.exception), NoPart)
            with self.assertRaises(NoNumbers) as caught:
                walked(DEEP, "main", thing) if thing not in ([0], (0,)) else walked(DEEP, "main", ())
            self.assertEqual(caught.exception.many, 1)

    def test_numbers_that_are_no_worths(self):
        for numbers in ((True,), [False], (10 ** 12 + 1,), [-10 ** 12 - 1], ("1",), (None,), ((1,),), ([1],), (1, 2),
                        [], (), {1: 2}, "a", b"a"):
            with self.assertRaises(NoNumbers) as caught:
                walked(DEEP, "main", numbers)
            self.assertEqual(caught.exception.many, 1)
        with self.assertRaises(NoNumbers) as caught:
            walked(RING, "main", (1,))
        self.assertEqual(caught.exception.many, 0)

    def test_nothing_that_is_handed_in_is_changed(self):
        program, numbers = copy.deepcopy(PLAIN), [0]
        walked(program, "main", numbers)
        self.assertEqual((program, numbers), (PLAIN, [0]))
        numbers[0] = 5
        trace = walked(program, "main", numbers)
        numbers.clear()
        self.assertEqual(trace, walked(PLAIN, "main", (5,)))

    def test_kinds(self):
        source = random.Random(32)
        seen = set()
        for _ in range(60):
            seen.update(one.kind for one in walked(random_program(source), "main", (1, 2)).moments())
        self.assertEqual(seen, set(KINDS))


if __name__ == "__main__":
    unittest.main()
