"""What trees mean: points 2, 8 and, of the ops, 14."""

import copy
import random
import unittest

from tests.reference import run_rows
from tests.samples import random_tree
from watchedrun.errors import TooLong
from watchedrun.meaning import MOST_SAYINGS, meant
from watchedrun.trees import is_tree, made

MOST = 10 ** 12
OPS = ("add", "less", "times", "over", "same", "below")

UNSET = ("name", "unset")
BY_NOUGHT = ("over", 1, 0)
BEYOND = ("add", MOST, 1)

SAYERS = (
    ("five", (), (("say", 5), ("back", 55))),
    ("six", (), (("say", 6), ("back", 66))),
    ("seven", (), (("say", 7), ("back", 77))),
    ("three", ("a", "b", "c"), (("say", ("name", "a")), ("say", ("name", "b")), ("say", ("name", "c")), ("back", 3))),
    ("thrower", ("n",), (("say", 9), ("throw", ("name", "n")))),
)


def call(name, *values):
    return ("call", name, values)


def tree_of(*sayings):
    return (("main", (), sayings), *SAYERS)


class MeaningTest(unittest.TestCase):

    def means(self, sayings, said, end, **more):
        self.tree_means(tree_of(*sayings), "main", (), said, end, **more)

    def tree_means(self, tree, part, numbers, said, end, **more):
        self.assertIs(is_tree(tree), True, tree)
        told = meant(tree, part, numbers, **more)
        self.assertEqual(repr(told), repr((tuple(said), end)), (tree, part, numbers))

    def gives(self, value, worth, said=()):
        self.means((("back", value),), said, ("back", worth))

    def faults(self, value, number, said=()):
        self.means((("back", value),), said, ("fault", number))


class ValueTest(MeaningTest):

    def test_worths(self):
        for worth in (0, 1, -1, MOST, -MOST):
            self.gives(worth, worth)
            self.means((("say", worth),), (worth,), ("back", 0))

    def test_names(self):
        self.means((("set", "a", 5), ("back", ("name", "a"))), (), ("back", 5))
        self.means((("set", "a", 5), ("set", "b", 6), ("set", "a", 7), ("say", ("name", "a")), ("back", ("name", "b"))),
                   (7,), ("back", 6))
        self.means((("set", "a", 0), ("back", ("name", "a"))), (), ("back", 0))

    def test_a_name_that_is_not_set(self):
        for saying in (("say", UNSET), ("back", UNSET), ("throw", UNSET), ("set", "unset", UNSET),
                       ("if", UNSET, (), ()), ("while", UNSET, ())):
            self.means((("set", "a", 1), saying, ("say", 1)), (), ("fault", -3))
        self.faults(("add", 1, UNSET), -3)
        self.faults(call("thrower", UNSET), -3)

    def test_ops(self):
        for op, one, other, worth in (
            ("add", 2, 3, 5), ("add", -2, -3, -5), ("add", -2, 3, 1), ("add", 0, 0, 0),
            ("less", 2, 3, -1), ("less", 3, 2, 1), ("less", -2, -3, 1), ("less", 0, 7, -7),
            ("times", 2, 3, 6), ("times", -2, 3, -6), ("times", -2, -3, 6), ("times", 0, -5, 0),
            ("same", 2, 2, 1), ("same", 2, 3, 0), ("same", 0, 0, 1), ("same", -2, 2, 0),
            ("below", 2, 3, 1), ("below", 3, 2, 0), ("below", 2, 2, 0), ("below", -3, -2, 1), ("below", 0, -1, 0),
        ):
            self.gives((op, one, other), worth)

    def test_over_with_either_sign(self):
        for one, other, worth in (
            (7, 2, 3), (-7, 2, -4), (7, -2, -4), (-7, -2, 3), (6, 2, 3), (-6, 2, -3), (6, -2, -3), (-6, -2, 3),
            (0, 5, 0), (0, -5, 0), (1, 5, 0), (-1, 5, -1), (1, -5, -1), (-1, -5, 0),
            (MOST, 1, MOST), (MOST, -1, -MOST), (-MOST, -1, MOST), (MOST, MOST, 1), (1, -MOST, -1), (-1, MOST, -1),
        ):
            self.gives(("over", one, other), worth)
        for one in (0, 1, -1, 7, MOST, -MOST):
            self.faults(("over", one, 0), -1)

    def test_worths_at_the_bounds_and_one_beyond(self):
        for value, worth in (
            (("add", MOST, 0), MOST), (("add", MOST - 1, 1), MOST), (("add", -MOST, 0), -MOST),
            (("add", 1 - MOST, -1), -MOST), (("less", MOST, 0), MOST), (("less", 1 - MOST, 1), -MOST),
            (("less", MOST - 1, -1), MOST), (("times", 10 ** 6, 10 ** 6), MOST), (("times", -10 ** 6, 10 ** 6), -MOST),
            (("times", MOST, -1), -MOST), (("times", -MOST, -1), MOST), (("less", MOST, MOST), 0),
            (("below", -MOST, MOST), 1), (("same", MOST, MOST), 1), (("same", MOST, -MOST), 0),
        ):
            self.gives(value, worth)
        for value in (
            ("add", MOST, 1), ("add", 1, MOST), ("add", -MOST, -1), ("add", MOST, MOST), ("less", -MOST, 1),
            ("less", MOST, -1), ("less", 0 - MOST, MOST), ("times", 10 ** 6, 10 ** 6 + 1), ("times", MOST, 2),
            ("times", 10 ** 6 + 1, -10 ** 6), ("times", MOST, -MOST), ("times", MOST, MOST),
        ):
            self.faults(value, -2)

    def test_a_number_that_is_none_within_an_op_is_a_fault_too(self):
        self.faults(("less", ("add", MOST, 1), 1), -2)
        self.faults(("times", ("times", MOST, 2), 0), -2)

    def test_values_within_values(self):
        self.gives(("less", ("times", 3, ("add", 1, 1)), ("over", 9, 2)), 2)

    def test_from_left_to_right(self):
        for op in OPS:
            told = {"add": 121, "less": -11, "times": 3630, "over": 0, "same": 0, "below": 1}[op]
            self.gives((op, call("five"), call("six")), told, (5, 6))
        self.gives(call("three", call("seven"), call("five"), call("six")), 3, (7, 5, 6, 77, 55, 66))
        self.gives(("add", ("add", call("six"), call("five")), call("seven")), 198, (6, 5, 7))

    def test_the_first_fault_from_the_left(self):
        wrong = ((UNSET, -3), (BY_NOUGHT, -1), (BEYOND, -2), (call("thrower", 44), 44))
        for one, number in wrong:
            said = (9,) if number == 44 else ()
            for other, _ in wrong:
                for op in OPS:
                    self.faults((op, one, other), number, said)
                    self.faults((op, ("less", 4, one), other), number, said)
                self.faults(call("three", one, other, call("five")), number, said)
                self.faults(call("three", call("five"), one, other), number, (5, *said))
                self.faults(call("three", call("five"), call("six"), one), number, (5, 6, *said))
            self.faults(("add", call("five"), one), number, (5, *said))
            self.faults(("add", one, call("five")), number, said)

    def test_an_op_is_asked_behind_its_values(self):
        self.faults(("over", UNSET, 0), -3)
        self.faults(("over", call("five"), 0), -1, (5,))


class SayingTest(MeaningTest):

    def test_no_sayings(self):
        self.means((), (), ("back", 0))

    def test_set_say_back_throw(self):
        self.means((("say", 3), ("say", 1), ("say", 3)), (3, 1, 3), ("back", 0))
        self.means((("say", 3), ("back", 4), ("say", 5)), (3,), ("back", 4))
        self.means((("say", 3), ("back", 0), ("say", 5)), (3,), ("back", 0))
        for number in (0, 1, -1, -3, 7, MOST, -MOST):
            self.means((("say", 3), ("throw", number), ("say", 5)), (3,), ("fault", number))
        self.means((("set", "a", ("add", 1, 2)), ("set", "a", ("add", ("name", "a"), ("name", "a"))),
                    ("say", ("name", "a"))), (6,), ("back", 0))

    def test_if(self):
        for value, said in ((1, 1), (-1, 1), (2, 1), (MOST, 1), (0, 2), (("same", 1, 2), 2), (("same", 2, 2), 1)):
            self.means((("if", value, (("say", 1),), (("say", 2),)), ("say", 3)), (said, 3), ("back", 0))
        self.means((("if", 1, (), (("say", 2),)), ("if", 0, (("say", 1),), ())), (), ("back", 0))
        self.means((("if", 1, (("back", 8),), ()), ("say", 3)), (), ("back", 8))
        self.means((("if", 0, (), (("say", 1), ("back", 0), ("say", 2))), ("say", 3)), (1,), ("back", 0))

    def test_while(self):
        down = ("set", "n", ("less", ("name", "n"), 1))
        self.means((("set", "n", 3), ("while", ("name", "n"), (("say", ("name", "n")), down)), ("say", 9)),
                   (3, 2, 1, 9), ("back", 0))
        self.means((("set", "n", -2), ("while", ("name", "n"), (("say", ("name", "n")), ("set", "n", ("add", ("name", "n"), 1)))),),
                   (-2, -1), ("back", 0))
        self.means((("while", 0, (("say", 1),)), ("say", 2)), (2,), ("back", 0))
        self.means((("set", "n", 3), ("while", ("name", "n"), (("say", ("name", "n")), ("back", 4))), ("say", 9)),
                   (3,), ("back", 4))
        self.means((("while", 1, (("say", 1), ("throw", 6), ("say", 2))),), (1,), ("fault", 6))

    def test_the_value_of_a_while_is_gone_through_anew(self):
        self.means((("set", "n", 2), ("while", ("less", call("five"), ("add", 53, ("name", "n"))), (
            ("set", "n", ("add", ("name", "n"), 1)),)), ("say", 1)), (5, 1), ("back", 0))
        self.means((("set", "n", 0), ("while", ("less", call("five"), ("add", 53, ("name", "n"))), (
            ("set", "n", ("add", ("name", "n"), 1)),)), ("say", 1)), (5, 5, 5, 1), ("back", 0))

    def test_try_without_a_fault(self):
        self.means((("try", (("say", 1),), "a", (("say", 2),)), ("say", 3)), (1, 3), ("back", 0))
        self.means((("set", "a", 4), ("try", (), "a", (("say", 2),)), ("say", ("name", "a"))), (4,), ("back", 0))
        self.means((("try", (), "a", (("say", 2),)), ("say", ("name", "a"))), (), ("fault", -3))

    def test_try_with_a_fault(self):
        for value, number in ((UNSET, -3), (BY_NOUGHT, -1), (BEYOND, -2)):
            self.means((("try", (("say", 1), ("say", value), ("say", 2)), "a", (("say", ("name", "a")),)), ("say", 3)),
                       (1, number, 3), ("back", 0))
            self.means((("try", (("set", "a", value),), "a", ()), ("back", ("name", "a"))), (), ("back", number))
        for number in (0, 5, -5, MOST):
            self.means((("try", (("throw", number), ("say", 2)), "a", (("say", ("name", "a")),)),), (number,), ("back", 0))

    def test_try_sets_a_name_that_was_set(self):
        self.means((("set", "a", 4), ("try", (("throw", ("name", "a")),), "b", (("set", "a", 8),)),
                    ("say", ("name", "a")), ("say", ("name", "b"))), (8, 4), ("back", 0))
        self.means((("set", "a", 4), ("try", (("set", "a", 5), ("throw", 6)), "a", ()), ("say", ("name", "a"))),
                   (6,), ("back", 0))

    def test_what_was_set_and_said_ahead_of_a_fault_stays(self):
        self.means((("try", (("set", "x", 5), ("say", 1), ("throw", 7)), "a", ()), ("say", ("name", "x"))),
                   (1, 5), ("back", 0))

    def test_try_with_a_fault_out_of_a_tuple_that_was_called(self):
        self.means((("try", (("say", call("thrower", 41)),), "a", (("say", ("name", "a")),)), ("say", 3)),
                   (9, 41, 3), ("back", 0))
        tree = (
            ("main", (), (("try", (("say", call("b")), ("say", 1)), "a", (("say", ("name", "a")),)), ("back", 2))),
            ("b", (), (("say", call("c")), ("say", 1))),
            ("c", (), (("say", 8), ("throw", 42), ("say", 1))),
        )
        self.tree_means(tree, "main", (), (8, 42), ("back", 2))

    def test_try_with_a_fault_out_of_its_second_sayings(self):
        self.means((("try", (("throw", 1),), "a", (("say", ("name", "a")), ("throw", 2), ("say", 5))), ("say", 6)),
                   (1,), ("fault", 2))
        self.means((("try", (("try", (("throw", 1),), "a", (("throw", 2),)),), "a", (("say", ("name", "a")),)),),
                   (2,), ("back", 0))
        self.means((("try", (("throw", 1),), "a", (("say", BY_NOUGHT),)),), (), ("fault", -1))

    def test_try_with_a_fault_out_of_a_value(self):
        for saying in (("if", UNSET, (), ()), ("while", UNSET, ()), ("if", call("thrower", -3), (), ()),
                       ("while", call("thrower", -3), ()), ("throw", UNSET), ("back", UNSET), ("set", "a", UNSET)):
            said = (9,) if call("thrower", -3) in saying else ()
            self.means((("try", (saying, ("say", 1)), "a", (("say", ("name", "a")),)),), (*said, -3), ("back", 0))

    def test_try_with_a_fault_the_third_time_that_a_while_is_asked(self):
        self.means((("set", "n", 2), ("try", (("while", ("over", 6, ("name", "n")), (
            ("say", ("name", "n")), ("set", "n", ("less", ("name", "n"), 1)))), ), "a", (("say", ("name", "a")),))),
            (2, 1, -1), ("back", 0))

    def test_the_inner_try_takes_a_fault(self):
        inner = ("try", (("throw", 1),), "a", (("say", 10),))
        self.means((("try", (inner, ("say", 11)), "b", (("say", 12),)),), (10, 11), ("back", 0))
        self.means((("try", (inner, ("throw", 4)), "b", (("say", ("name", "b")),)),), (10, 4), ("back", 0))

    def test_a_fault_behind_a_try_is_not_taken(self):
        self.means((("try", (("say", 1),), "a", (("say", 2),)), ("throw", 3)), (1,), ("fault", 3))
        self.means((("try", (("throw", 5),), "a", (("say", 2),)), ("throw", 3)), (2,), ("fault", 3))

    def test_back_out_of_a_try(self):
        self.means((("try", (("back", 5),), "a", (("say", 2),)), ("say", 3)), (), ("back", 5))
        self.means((("try", (("throw", 5),), "a", (("back", 0),)), ("say", 3)), (), ("back", 0))
        tree = (("main", (), (("say", call("b")), ("throw", 6))), ("b", (), (("try", (("back", 5),), "a", ()),)))
        self.tree_means(tree, "main", (), (5,), ("fault", 6))


class CallTest(MeaningTest):

    def test_what_a_call_comes_to(self):
        for sayings, worth in (((), 0), ((("say", 8),), 0), ((("back", 4), ("back", 5)), 4), ((("back", 0),), 0),
                               ((("if", 1, (("back", -6),), ()), ("back", 7)), -6), ((("while", 1, (("back", 3),)),), 3)):
            said = (8,) if sayings == (("say", 8),) else ()
            self.tree_means((("a", (), (("back", call("b")),)), ("b", (), sayings)), "a", (), said, ("back", worth))

    def test_numbers(self):
        tree = (("a", ("x", "y", "z"), (("say", ("name", "z")), ("say", ("name", "x")), ("back", ("name", "y")))),)
        self.tree_means(tree, "a", (1, 2, 3), (3, 1), ("back", 2))
        self.tree_means(tree, "a", (MOST, -MOST, 0), (0, MOST), ("back", -MOST))
        tree = (("a", ("z", "a"), (("back", ("less", ("name", "z"), ("name", "a"))),)),)
        self.tree_means(tree, "a", (9, 2), (), ("back", 7))

    def test_any_part_can_be_begun(self):
        tree = (("a", (), (("back", 1),)), ("b", ("n",), (("back", ("name", "n")),)), ("c", (), (("back", 3),)))
        self.tree_means(tree, "a", (), (), ("back", 1))
        self.tree_means(tree, "b", (22,), (), ("back", 22))
        self.tree_means(tree, "c", (), (), ("back", 3))
        self.assertEqual(meant(tree, "a"), ((), ("back", 1)))
        self.assertEqual(meant(tree, "c", most=1), ((), ("back", 3)))

    def test_names_are_a_tuples_own_each_time(self):
        tree = (
            ("main", ("n",), (("set", "k", 5), ("say", call("b", ("name", "n"))), ("say", ("name", "n")),
                              ("say", ("name", "k")), ("say", call("b", 8)))),
            ("b", ("n",), (("try", (("say", ("name", "k")),), "why", (("say", ("name", "why")),)),
                           ("set", "k", 6), ("set", "n", ("add", ("name", "n"), 1)), ("back", ("name", "n")))),
        )
        self.tree_means(tree, "main", (3,), (-3, 4, 3, 5, -3, 9), ("back", 0))

    def test_a_tuple_that_calls_itself_has_names_of_its_own(self):
        tree = (("fact", ("n",), (
            ("if", ("below", ("name", "n"), 2), (("back", 1),), ()),
            ("set", "rest", call("fact", ("less", ("name", "n"), 1))),
            ("say", ("name", "n")),
            ("back", ("times", ("name", "n"), ("name", "rest"))),
        )),)
        self.tree_means(tree, "fact", (6,), (2, 3, 4, 5, 6), ("back", 720))

    def deep_tree(self, *at_the_end):
        """A tuple that calls itself until n are begun, and then goes on so."""
        return (("down", ("n",), (
            ("if", ("below", 1, ("name", "n")), (("back", call("down", ("less", ("name", "n"), 1))),), ()),
            *at_the_end,
        )),)

    def test_twelve_begun_and_not_ended(self):
        tree = self.deep_tree(("back", 7))
        for many in range(1, 13):
            self.tree_means(tree, "down", (many,), (), ("back", 7))
        for many in (13, 14, 20):
            self.tree_means(tree, "down", (many,), (), ("fault", -4))

    def test_the_values_of_the_thirteenth_are_gone_through_ahead(self):
        for value, number, said in ((5, -4, ()), (UNSET, -3, ()), (BY_NOUGHT, -1, ())):
            tree = self.deep_tree(("say", 1), ("back", call("down", value)))
            self.tree_means(tree, "down", (12,), (1,), ("fault", number))
        last = ("back", call("down", call("down", 1)))
        self.tree_means(self.deep_tree(("say", 1), last), "down", (12,), (1,), ("fault", -4))

    def test_one_that_has_ended_is_not_counted(self):
        tree = (("main", (), (
            ("set", "n", 0),
            ("while", ("below", ("name", "n"), 18), (("set", "n", ("add", ("name", "n"), call("one"))),)),
            ("back", ("name", "n")),
        )), ("one", (), (("back", 1),)))
        self.tree_means(tree, "main", (), (), ("back", 18))
        two = ("add", call("one"), call("one"))
        beside = (("main", (), (("back", ("add", ("add", two, two), ("add", two, two))),)), tree[1])
        self.tree_means(beside, "main", (), (), ("back", 8))

    def test_one_that_has_ended_with_a_fault_is_not_counted(self):
        tree = (("main", (), (
            ("set", "n", 0),
            ("while", ("below", ("name", "n"), 14), (
                ("try", (("say", call("bad")),), "f", (("set", "n", ("add", ("name", "n"), 1)),)),)),
            ("back", ("name", "n")),
        )), ("bad", (), (("say", UNSET),)))
        self.tree_means(tree, "main", (), (), ("back", 14), most=200)

    def test_the_thirteenth_within_a_guard(self):
        guarded = ("try", (("say", call("down", 1)),), "why", (("back", ("name", "why")),))
        tree = self.deep_tree(("if", ("below", ("name", "n"), 1), (("back", 9),), ()), guarded)
        self.tree_means(tree, "down", (12,), (), ("back", -4))
        outer = (("main", (), (("try", (("say", call("down", 12)),), "why", (("say", ("name", "why")),)), ("back", 5))),
                 *self.deep_tree(("back", 7)))
        self.tree_means(outer, "main", (), (-4,), ("back", 5))
        inner = (("main", (), (("try", (("say", call("down", 11)),), "why", (("say", ("name", "why")),)), ("back", 5))),
                 *self.deep_tree(("back", 7)))
        self.tree_means(inner, "main", (), (7,), ("back", 5))

    def test_twelve_by_turns(self):
        tree = (
            ("a", ("n",), (("say", 1), ("back", call("b", ("name", "n"))))),
            ("b", ("n",), (("say", 2), ("back", call("a", ("name", "n"))))),
        )
        self.tree_means(tree, "a", (0,), (1, 2) * 6, ("fault", -4))

    def test_as_deep_as_can_be(self):
        """Twelve begun, each four sayings and four values deep, also where the caller stands deep itself."""
        last = ("back", call("same", call("same", call("same", call("loop")))))
        tree = (
            ("loop", (), (("try", (("try", (("try", (last,), "f", ()),), "f", ()),), "f", ()),)),
            ("same", ("n",), ()),
        )
        self.tree_means(tree, "loop", (), (), ("back", 0))

        def beneath(times):
            return beneath(times - 1) if times else meant(tree, "loop")
        self.assertEqual(beneath(500), ((), ("back", 0)))


class LongTest(MeaningTest):

    def check_many(self, tree, part, numbers, many, said, end):
        """Whether just so many sayings are begun."""
        self.assertIs(is_tree(tree), True, tree)
        for most in range(many, 61):
            self.assertEqual(meant(tree, part, numbers, most=most), (said, end))
        for most in range(many):
            told, ended = meant(tree, part, numbers, most=most)
            self.assertEqual(ended, ("long",), most)
            self.assertEqual(told, said[:len(told)])

    def check_main(self, sayings, many, said, end):
        self.check_many(tree_of(*sayings), "main", (), many, said, end)

    def test_most_sayings(self):
        self.assertEqual(MOST_SAYINGS, 60)

    def test_most_at_0(self):
        self.means((), (), ("back", 0), most=0)
        for saying in (("say", 1), ("back", 1), ("throw", 1), ("set", "a", 1), ("if", 1, (), ()), ("while", 0, ()),
                       ("try", (), "a", ()), ("say", UNSET)):
            self.means((saying,), (), ("long",), most=0)
            self.assertNotEqual(meant(tree_of(saying), "main", (), most=1)[1], ("long",))

    def test_sayings_one_behind_another(self):
        self.check_main((("say", 1), ("set", "a", 2), ("say", 3)), 3, (1, 3), ("back", 0))
        self.check_main((("say", 1), ("back", 2), ("say", 3)), 2, (1,), ("back", 2))
        self.check_main((("say", 1), ("throw", 2), ("say", 3)), 2, (1,), ("fault", 2))
        self.means((("say", 1), ("say", 2), ("say", 3)), (1, 2), ("long",), most=2)

    def test_sayings_within(self):
        self.check_main((("if", 1, (("say", 1),), (("say", 2), ("say", 3))), ("say", 4)), 3, (1, 4), ("back", 0))
        self.check_main((("if", 0, (("say", 1),), (("say", 2), ("say", 3))), ("say", 4)), 4, (2, 3, 4), ("back", 0))
        self.check_main((("try", (("say", 1), ("throw", 1), ("say", 2)), "a", (("say", 3),)),), 4, (1, 3), ("back", 0))
        self.check_main((("try", (("say", 1),), "a", (("say", 3),)), ("say", 4)), 3, (1, 4), ("back", 0))

    def test_sayings_of_calls(self):
        self.check_main((("say", call("five")),), 3, (5, 55), ("back", 0))
        self.check_main((("back", ("add", call("five"), call("six"))),), 5, (5, 6), ("back", 121))
        self.means((("back", ("add", call("five"), call("six"))),), (5,), ("long",), most=3)
        self.means((("back", ("add", call("five"), call("six"))),), (5, 6), ("long",), most=4)

    def test_a_while_counts_each_time_that_its_value_is_gone_through(self):
        self.check_main((("while", 0, ()),), 1, (), ("back", 0))
        self.check_main((("while", 0, ()), ("say", 1)), 2, (1,), ("back", 0))
        down = ("set", "n", ("less", ("name", "n"), 1))
        for times in range(1, 8):
            self.check_main((("set", "n", times), ("while", ("name", "n"), (down,))), 2 + 2 * times, (), ("back", 0))
            self.check_main((("set", "n", times), ("while", ("name", "n"), (("say", 4), down)), ("say", 5)),
                            3 + 3 * times, (4,) * times + (5,), ("back", 0))
        self.check_main((("while", 1, (("back", 6),)),), 2, (), ("back", 6))
        self.check_main((("while", UNSET, (("back", 6),)),), 1, (), ("fault", -3))

    def test_a_while_is_counted_ahead_of_its_value(self):
        calling = ("while", ("less", call("five"), 55), ())
        self.means((calling,), (), ("long",), most=0)
        self.means((calling,), (), ("long",), most=1)
        self.means((calling,), (5,), ("long",), most=2)
        self.means((calling,), (5,), ("back", 0), most=3)
        again = ("while", ("add", call("five"), 0), ())
        self.means((again,), (5,), ("long",), most=3)
        self.means((again,), (5,), ("long",), most=4)
        self.means((again,), (5, 5), ("long",), most=5)
        self.means((again,), (5, 5), ("long",), most=6)

    def test_no_end(self):
        self.means((("while", 1, ()),), (), ("long",))
        for most in range(61):
            self.means((("while", 1, ()),), (), ("long",), most=most)
            self.means((("while", 1, (("say", 1),)),), (1,) * (most // 2), ("long",), most=most)

    def test_most_left_out_is_sixty(self):
        def tree(times, *behind):
            down = ("set", "n", ("less", ("name", "n"), 1))
            return tree_of(("set", "n", times), ("while", ("name", "n"), (down,)), *behind)
        self.check_many(tree(29), "main", (), 60, (), ("back", 0))
        self.assertEqual(meant(tree(29), "main"), ((), ("back", 0)))
        self.assertEqual(meant(tree(29), "main", ()), ((), ("back", 0)))
        self.assertEqual(meant(tree(28, ("say", 3), ("say", 4)), "main"), ((3, 4), ("back", 0)))
        self.assertEqual(meant(tree(28, ("say", 3), ("say", 4), ("say", 5)), "main"), ((3, 4), ("long",)))
        self.assertEqual(meant(tree(30), "main"), ((), ("long",)))
        self.assertEqual(meant(tree(30), "main", most=62), ((), ("back", 0)))

    def test_said_at_the_end_of_a_long_one(self):
        self.means((("while", 1, (("say", 1), ("say", 2))),), (1, 2) * 20, ("long",))
        self.means((("while", 1, (("say", 1), ("say", 2))),), (1, 2) * 19 + (1,), ("long",), most=59)

    def test_a_try_does_not_take_it(self):
        self.means((("try", (("while", 1, (("say", 1),)),), "a", (("say", 2),)), ("say", 3)), (1,) * 3, ("long",), most=8)
        tree = (("main", (), (("try", (("say", call("b")),), "a", (("say", 2),)),)), ("b", (), (("while", 1, ()),)))
        self.tree_means(tree, "main", (), (), ("long",))

    def test_just_as_many_at_the_thirteenth(self):
        tree = (("a", (), (("say", 1), ("back", call("a")))),)
        self.check_many(tree, "a", (), 24, (1,) * 12, ("fault", -4))

    def test_most_is_handed_in_by_its_name(self):
        with self.assertRaises(TypeError):
            meant(tree_of(), "main", (), 5)


class HandedInTest(MeaningTest):

    def test_nothing_that_is_handed_in_is_changed(self):
        tree = (("main", ("n", "m"), (
            ("set", "n", 8), ("say", ("name", "n")), ("try", (("throw", 5),), "m", (("say", ("name", "m")),)),
            ("back", call("b", ("name", "m"))))), ("b", ("n",), (("set", "n", 4), ("back", ("name", "n")))))
        numbers = (1, 2)
        elder = copy.deepcopy((tree, numbers))
        for _ in range(2):
            self.assertEqual(meant(tree, "main", numbers), ((8, 5), ("back", 4)))
            self.assertEqual((tree, numbers), elder)

    def test_what_is_told_is_tuples(self):
        for sayings in ((), (("say", 1),), (("throw", 1),), (("while", 1, ()),)):
            told = meant(tree_of(*sayings), "main")
            self.assertEqual([type(told), type(told[0]), type(told[1])], [tuple] * 3)

    def test_asked_again_it_is_the_same(self):
        tree = tree_of(("say", call("five")), ("set", "a", 4), ("back", ("name", "a")))
        self.assertEqual([meant(tree, "main") for _ in range(3)], [((5, 55), ("back", 4))] * 3)
        self.assertEqual(meant(tree_of(("say", ("name", "a"))), "main"), ((), ("fault", -3)))


class ManyTreesTest(unittest.TestCase):
    """Trees put together by numbers that are the same each time: what they mean, and what their rows do."""

    def test_rows_say_and_end_as_the_tree_means(self):
        source = random.Random(8)
        ends = {}
        for _ in range(6000):
            tree = random_tree(source, 3)
            numbers = (source.randrange(-2, 3), source.randrange(-2, 3))
            try:
                program = made(tree)
            except TooLong:
                continue
            said, end = meant(tree, "main", numbers)
            if end == ("long",):
                by_rows, _ = run_rows(program, "main", numbers)
                self.assertEqual(by_rows[:len(said)], said, (tree, numbers))
            else:
                self.assertEqual(run_rows(program, "main", numbers), (said, end), (tree, numbers))
            kind = end if end[0] == "fault" and end[1] in (-1, -2, -3, -4) else end[0]
            ends[kind] = ends.get(kind, 0) + 1
        self.assertEqual(len(ends), 7, ends)
        self.assertGreater(min(ends.values()), 5, ends)


if __name__ == "__main__":
    unittest.main()
