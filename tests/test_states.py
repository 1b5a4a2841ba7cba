"""How a run begins, and what a hook is: points 2, 12, 16 and 18."""

import copy
import itertools
import unittest

from tests.samples import any_things, places, put_otherwise, shown, very_deep
from watchedrun.errors import NoNumbers, NoPart, NoProgram, Unsound
from watchedrun.moments import KINDS
from watchedrun.states import begun, is_hook

MOST = 10 ** 12
END = (("put", 0), ("back",))

PROGRAM = (
    ("main", (), END),
    ("one", ("n",), END),
    ("two", ("b", "a"), END),
    ("three", ("c", "a", "b"), END),
    ("other", ("aa", "b", "a"), END),
)

NOT_PROGRAMS = [list(PROGRAM), PROGRAM + (None,), (("main", (), [("back",)]),), (("main", (), (("put", True),)),)]


class BegunTest(unittest.TestCase):

    def check(self, part, numbers, number, names):
        frame = (number, 0, (), names, (), None, ("call", None, 0))
        for handed in (tuple(numbers), list(numbers)):
            self.assertEqual(repr(begun(PROGRAM, part, handed)), repr(((frame,), (), None)))

    def test_the_state_with_which_a_run_begins(self):
        self.check("main", (), 0, ())
        self.check("one", (5,), 1, (("n", 5),))
        self.check("two", (5, 6), 2, (("a", 6), ("b", 5)))
        self.check("three", (5, 6, 7), 3, (("a", 6), ("b", 7), ("c", 5)))
        self.check("other", (3, 2, 1), 4, (("a", 1), ("aa", 3), ("b", 2)))

    def test_numbers_left_out(self):
        self.assertEqual(begun(PROGRAM, "main"), (((0, 0, (), (), (), None, ("call", None, 0)),), (), None))
        for part, many in (("one", 1), ("two", 2), ("three", 3)):
            with self.assertRaises(NoNumbers) as caught:
                begun(PROGRAM, part)
            self.assertEqual(caught.exception.many, many)

    def test_worths_at_the_bounds(self):
        for worth in (0, 1, -1, MOST, -MOST, MOST - 1):
            self.check("one", (worth,), 1, (("n", worth),))
            self.check("three", (1, 2, worth), 3, (("a", 2), ("b", worth), ("c", 1)))

    def test_all_is_tuples(self):
        state = begun(PROGRAM, "three", [1, 2, 3])
        for _, inner in places(state):
            self.assertNotIsInstance(inner, list)

    def test_what_is_done_to_a_list_later_changes_nothing(self):
        numbers = [1, 2]
        state = begun(PROGRAM, "two", numbers)
        self.assertEqual(numbers, [1, 2])
        numbers[0] = 9
        numbers.clear()
        self.assertEqual(state[0][0][3], (("a", 2), ("b", 1)))
        self.assertEqual(begun(PROGRAM, "two", [1, 2]), state)


class BegunRefusedTest(unittest.TestCase):

    def no_numbers(self, part, numbers, many):
        with self.assertRaises(NoNumbers) as caught:
            begun(PROGRAM, part, numbers)
        self.assertEqual(caught.exception.many, many)
        self.assertIs(type(caught.exception.many), int)

    def test_too_few_and_too_many(self):
        for many, part in enumerate(("main", "one", "two", "three")):
            for handed in range(6):
                for kind in (tuple, list):
                    if handed != many:
                        self.no_numbers(part, kind(range(handed)), many)
        self.no_numbers("three", tuple(range(20000)), 3)

    def test_what_is_no_worth(self):
        for wrong in (True, False, None, MOST + 1, -MOST - 1, 10 ** 39, -10 ** 39, "1", "", (1,), [1], ()):
            self.no_numbers("one", (wrong,), 1)
            self.no_numbers("one", [wrong], 1)
            for at in range(3):
                numbers = [1, 2, 3]
                numbers[at] = wrong
                self.no_numbers("three", numbers, 3)
                self.no_numbers("three", tuple(numbers), 3)

    def test_of_any_thing(self):
        for thing in any_things() + [very_deep(), "abc", "1"]:
            for many, part in enumerate(("main", "one", "two", "three")):
                if thing not in ([(), []], [(0,), [0]], [], [])[many]:
                    self.no_numbers(part, thing, many)
        for thing in (None, 0, "", True, False):
            self.no_numbers("main", thing, 0)

    def test_no_program_is_ahead_of_all_else(self):
        for thing in any_things() + NOT_PROGRAMS + [very_deep(), ()]:
            for part, numbers in (("main", ()), ("none", ()), (None, None), ("main", (1,)), ([], [True])):
                with self.assertRaises(NoProgram):
                    begun(thing, part, numbers)

    def test_unsound_is_ahead_of_no_part_and_no_numbers(self):
        program = (
            ("a", (), END), ("b", (), (("put", 1), ("add",), ("back",))), ("c", (), (("put", 1),)), ("d", ("n",), END),
        )
        for parts, told, paper in (
            (program, "b", ("lacks", "b", [0, 1])),
            (program[2:] + program[:2], "c", ("falls", "c", [0])),
            (program[1:2], "b", ("lacks", "b", [0, 1])),
        ):
            for part, numbers in (("a", ()), ("b", ()), ("c", ()), ("d", (1,)), ("d", ()), ("z", ()), (None, None), ("a", 5)):
                with self.assertRaises(Unsound) as caught:
                    begun(parts, part, numbers)
                self.assertEqual((caught.exception.part, caught.exception.paper), (told, paper))

    def test_no_part_is_ahead_of_no_numbers(self):
        for part in any_things() + ["mai", "n", "maine"]:
            for numbers in ((), (1,), None, [True], "12"):
                with self.assertRaises(NoPart) as caught:
                    begun(PROGRAM, part, numbers)
                self.assertEqual(repr(caught.exception.name), repr(part))

    def test_nothing_that_is_handed_in_is_changed(self):
        for thing in any_things() + NOT_PROGRAMS + [PROGRAM, [1, 2, 3], [3, True]]:
            elder = repr(thing)
            for call in (lambda: begun(thing, "main"), lambda: begun(PROGRAM, thing), lambda: begun(PROGRAM, "main", thing),
                         lambda: begun(PROGRAM, "three", thing), lambda: is_hook(thing, None),
                         lambda: is_hook(PROGRAM, thing)):
                try:
                    call()
                except (NoProgram, NoPart, NoNumbers):
                    pass
                self.assertEqual(repr(thing), elder)


class HookTest(unittest.TestCase):

    def yes(self, thing):
        self.assertIs(is_hook(PROGRAM, thing), True, thing)

    def no(self, thing):
        if is_hook(PROGRAM, thing) is not False:
            self.fail(shown(thing))

    def test_a_part_with_three_names(self):
        for name in ("three", "other"):
            self.yes((name, ("row",), None))
            self.yes((name, ("row",), ("main", 0, 1)))
        for name in ("main", "one", "two", "thre", "threes", "c", "a", "", "Three", None, 0, 3, True, ("three",), ["three"]):
            self.no((name, ("row",), None))
            self.no((name, ("row",), ("main", 0, 1)))

    def test_kinds(self):
        for many in range(1, 6):
            for kinds in itertools.permutations(KINDS, many):
                self.yes(("three", kinds, None))
                self.no(("three", list(kinds), None))
                if many == 5:
                    continue
                for kind in kinds:
                    self.no(("three", (*kinds, kind), None))
        for kinds in (
            (), [], None, "row", "", 0, 1, True, ("row", "row"), (*KINDS, "call"), (*KINDS, "six"), ("rows",), ("Row",), ("",),
            (None,), (0,), (1,), (True,), (("row",),), (["row"],), ("call", "row", "back", "fault", "caugh"),
            ("call", "row", "back", "fault", "fault"), ("row", None), (None, "row"), ("row", "row", "row"), {"row": 1},
        ):
            self.no(("three", kinds, None))

    def test_where(self):
        for part in ("main", "one", "two", "three", "other"):
            for first, last in ((0, 0), (0, 1), (1, 1), (0, 59), (59, 59), (5, 7), (58, 59)):
                self.yes(("three", ("row",), (part, first, last)))
        for first, last in (
            (1, 0), (59, 58), (59, 0), (-1, 0), (-1, -1), (-2, 5), (0, -1), (0, 60), (60, 60), (59, 60), (60, 0), (0, 10 ** 39),
            (-10 ** 39, 0), (False, 0), (0, False), (False, True), (True, 1), (1, True), (True, True), (0, True), (None, 1),
            (0, None), ("0", 1), (0, "1"), ((0,), 1), (0, [1]), ("", ""), (0, ()),
        ):
            self.no(("three", ("row",), ("main", first, last)))
        for part in ("mai", "mains", "", "n", "Main", None, 0, True, ("main",), ["main"]):
            self.no(("three", ("row",), (part, 0, 1)))
        for where in (
            (), ("main",), ("main", 0), ("main", 0, 1, 1), ("main", 0, 1, None), (0, 1), (0, 1, "main"), ["main", 0, 1],
            "main", "", 0, 1, True, False, [], [None], (None,), ((),), (None, None, None),
        ):
            self.no(("three", ("row",), where))

    def test_all_stretches(self):
        for first in range(-2, 63):
            for last in range(-2, 63):
                hook = ("three", ("row",), ("main", first, last))
                self.assertIs(is_hook(PROGRAM, hook), 0 <= first <= last <= 59, hook)

    def test_one_thing_too_many_or_too_few(self):
        hook = ("three", ("row",), None)
        for thing in ((), hook[:1], hook[:2], (*hook, None), hook * 2, (hook,), list(hook), hook[1:], hook[::-1]):
            self.no(thing)

    def test_any_things(self):
        for thing in any_things() + [very_deep()]:
            self.no(thing)

    def test_another_thing_at_each_place(self):
        hook = ("three", ("row", "back"), ("main", 0, 59))
        self.yes(hook)
        for path, inner in places(hook):
            for thing in any_things() + [very_deep()]:
                number = isinstance(thing, int) and not isinstance(thing, bool) and 0 <= thing <= 59
                if (path == (2,) and thing is None) or (path in ((2, 1), (2, 2)) and number):
                    self.yes(put_otherwise(hook, path, thing))
                else:
                    self.no(put_otherwise(hook, path, thing))
            if isinstance(inner, tuple):
                self.no(put_otherwise(hook, path, list(inner)))
                self.no(put_otherwise(hook, path, inner + (None,)))
                self.no(put_otherwise(hook, path, inner[:-1] + (True,)))

    def test_of_a_program_that_is_not_sound(self):
        program = (("main", (), (("add",),)), ("watch", ("k", "r", "w"), (("back",),)))
        self.assertIs(is_hook(program, ("watch", ("row",), ("main", 0, 5))), True)
        self.assertIs(is_hook(program, ("main", ("row",), None)), False)
        self.assertIs(is_hook(program, ("three", ("row",), None)), False)

    def test_no_program(self):
        for thing in any_things() + NOT_PROGRAMS + [very_deep(), ()]:
            for hook in (("three", ("row",), None), None, (), [], "three"):
                with self.assertRaises(NoProgram):
                    is_hook(thing, hook)

    def test_asked_again_it_is_the_same(self):
        hook = ("three", ("row", "back"), ("main", 0, 59))
        elder = copy.deepcopy((PROGRAM, hook))
        self.assertEqual([is_hook(PROGRAM, hook) for _ in range(3)], [True] * 3)
        self.assertEqual((PROGRAM, hook), elder)


if __name__ == "__main__":
    unittest.main()
