"""Trees and the programs made of them: points 2, 6 and 7."""

import copy
import itertools
import random
import unittest

from tests.samples import any_things, places, put_otherwise, random_tree, shown, very_deep
from watchedrun.errors import TooLong
from watchedrun.programs import is_program
from watchedrun.trees import is_tree, made

OPS = ("add", "less", "times", "over", "same", "below")

EVERY_KIND = (
    ("main", ("n", "m"), (
        ("set", "k", ("call", "help", (("name", "n"), 5, ("add", 1, ("name", "m"))))),
        ("say", -7),
        ("if", ("same", 1, 2), (("back", ("less", 3, 4)),), (("throw", ("times", 5, 6)), ("say", 2))),
        ("while", ("below", 7, 8), (("say", ("over", 9, 2)),)),
        ("try", (("say", ("call", "none", ())),), "fault", (("say", ("name", "fault")),)),
        ("back", ("call", "main", (1, 2))),
    )),
    ("help", ("a", "b", "c"), ()),
    ("none", (), (("back", 0),)),
)

VALUE_WAYS = {
    "one": lambda value: ("add", value, 1),
    "other": lambda value: ("less", 1, value),
    "only": lambda value: ("call", "one", (value,)),
    "first": lambda value: ("call", "three", (value, 1, 1)),
    "middle": lambda value: ("call", "three", (1, value, 1)),
    "last": lambda value: ("call", "three", (1, 1, value)),
}

SAYING_WAYS = {
    "if first": lambda saying: ("if", 1, (saying,), ()),
    "if second": lambda saying: ("if", 1, (), (saying,)),
    "while": lambda saying: ("while", 1, (saying,)),
    "try first": lambda saying: ("try", (saying,), "a", ()),
    "try second": lambda saying: ("try", (), "a", (saying,)),
    "among others": lambda saying: ("if", 1, (("say", 1),), (("say", 1), ("say", 1), saying, ("say", 1))),
}


def tree_of(*sayings):
    """A tree with these sayings, and tuples to be called with none, one and three values."""
    return (("main", (), sayings), ("none", (), ()), ("one", ("a",), ()), ("three", ("a", "b", "c"), ()))


def value_tree(value):
    return tree_of(("say", value))


def wrapped(thing, ways):
    for way in ways:
        thing = way(thing)
    return thing


class TreeTest(unittest.TestCase):

    def yes(self, thing):
        self.assertIs(is_tree(thing), True, thing)

    def no(self, thing):
        if is_tree(thing) is not False:
            self.fail(shown(thing))


class IsTreeTest(TreeTest):

    def test_ordinary_trees(self):
        self.yes(EVERY_KIND)
        self.yes((("main", (), ()),))
        self.yes(tree_of())

    def test_one_to_six_tuples(self):
        for many in range(1, 7):
            self.yes(tuple((name, (), ()) for name in "abcdef"[:many]))
        self.no(())
        self.no(tuple((name, (), ()) for name in "abcdefg"))
        self.no(tuple((name, (), ()) for name in "abcdefgh"))

    def test_heads(self):
        self.no((("a", (), ()), ("a", (), ())))
        self.no((("a", (), ()), ("b", (), ()), ("a", ("x",), ())))
        for names in ((), ("a",), ("b", "a"), ("main", "a", "b")):
            self.yes((("main", names, ()),))
        for names in (("a", "b", "c", "d"), ("a", "a"), ("a", "b", "a"), ("",), ("A",), (1,), ["a"], None, "a", (None,)):
            self.no((("main", names, ()),))
        for name in ("", "abcdefghi", "A", "a1", "a b", "a_", None, 0, True, ("a",), ["a"]):
            self.no(((name, (), ()),))
        for one in (("main", ()), ("main", (), (), ()), ("main",), (), None, ["main", (), ()]):
            self.no((one,))

    def test_worths(self):
        for worth in (0, 1, -1, 10 ** 12, -10 ** 12):
            self.yes(value_tree(worth))
        for wrong in (10 ** 12 + 1, -10 ** 12 - 1, 10 ** 39, True, False, None, "1", "name", "a", "", [1], (1,), (), []):
            self.no(value_tree(wrong))

    def test_names(self):
        for name in ("a", "z", "abcdefgh", "never", "none"):
            self.yes(value_tree(("name", name)))
            self.yes(tree_of(("set", name, 1)))
            self.yes(tree_of(("try", (), name, ())))
        for wrong in ("", "abcdefghi", "A", "a1", "a b", " a", "a_", "{", "`", None, 0, 1, True, ("a",), ["a"], ()):
            self.no(value_tree(("name", wrong)))
            self.no(tree_of(("set", wrong, 1)))
            self.no(tree_of(("try", (), wrong, ())))
        for wrong in (("name",), ("name", "a", "b"), ("name", "a", 1), ("named", "a"), ["name", "a"], ("get", "a")):
            self.no(value_tree(wrong))

    def test_ops(self):
        for op in OPS:
            self.yes(value_tree((op, 1, ("name", "a"))))
            self.yes(value_tree((op, ("name", "a"), 1)))
            for wrong in ((op,), (op, 1), (op, 1, 2, 3), [op, 1, 2], (op, True, 1), (op, 1, False), (op, None, 1),
                          (op, 1, None), (op, "a", 1), (op, 1, "a"), (op, (1, 2)), (1, op, 2), (op, [1], 1)):
                self.no(value_tree(wrong))
        for word in ("", "plus", "Add", "add ", "twin", "swap", "put", "say", "name", None, 0, True, ("add",), ["add"]):
            self.no(value_tree((word, 1, 2)))

    def test_calls(self):
        self.yes(value_tree(("call", "none", ())))
        self.yes(value_tree(("call", "main", ())))
        self.yes(value_tree(("call", "one", (5,))))
        self.yes(value_tree(("call", "three", (1, ("name", "a"), ("call", "one", (1,))))))
        self.yes((("main", ("a", "b"), (("say", ("call", "main", (1, 2))),)),))
        self.yes((("main", (), (("say", ("call", "last", (1,))),)), ("last", ("a",), ())))
        for wrong in (("call", "no", ()), ("call", "a", ()), ("call", "", ()), ("call", None, ()), ("call", 0, ()),
                      ("call", ["none"], ()), ("call", ("none",), ()), ("call", True, ()), ("call",), ("call", "none"),
                      ("call", "none", (), ()), ("call", "none", []), ("call", "none", None), ("call", "none", 0),
                      ("call", "one", 5), ("call", "one", [5]), ("call", "one", (True,)), ("call", "one", (None,)),
                      ("call", "none", ""), ("call", "one", "a"), ("calls", "none", ())):
            self.no(value_tree(wrong))

    def test_a_call_has_as_many_values_as_names(self):
        takes = {"main": 0, "none": 0, "one": 1, "three": 3}
        for name, takes_many in takes.items():
            for many in range(6):
                self.assertIs(is_tree(value_tree(("call", name, (1,) * many))), many == takes_many, (name, many))
        for wrong in ((), (1,), (1, 2, 3)):
            self.no((("main", ("a", "b"), (("say", ("call", "main", wrong)),)),))
        for at in range(3):
            values = [1, 2, 3]
            values[at] = True
            self.no(value_tree(("call", "three", tuple(values))))

    def test_sayings_of_one_value(self):
        for word in ("say", "back", "throw"):
            self.yes(tree_of((word, 1)))
            self.yes(tree_of((word, ("add", 1, ("call", "none", ())))))
            for wrong in ((word,), (word, 1, 1), (word, True), (word, None), (word, "a"), (word, (1,)), [word, 1],
                          (1, word), (word, ())):
                self.no(tree_of(wrong))

    def test_set(self):
        self.yes(tree_of(("set", "a", ("name", "a"))))
        for wrong in (("set",), ("set", "a"), ("set", 1), ("set", "a", 1, 1), ("set", 1, "a"), ("set", "a", True),
                      ("set", "a", None), ["set", "a", 1], ("set", "a", "a")):
            self.no(tree_of(wrong))

    def test_if(self):
        self.yes(tree_of(("if", 1, (), ())))
        self.yes(tree_of(("if", ("name", "a"), (("say", 1),) * 6, (("say", 1),) * 6)))
        for wrong in (("if",), ("if", 1), ("if", 1, ()), ("if", 1, (), (), ()), ("if", (), ()), ("if", True, (), ()),
                      ("if", None, (), ()), ("if", 1, [], ()), ("if", 1, (), []), ("if", 1, None, ()), ("if", 1, (), 0),
                      ("if", 1, ("say", 1), ()), ("if", 1, (), ("say", 1)), ("if", 1, (1,), ()), ("if", 1, (), (1,)),
                      ["if", 1, (), ()], ("if", (), (), 1), ("if", 1, (("say", True),), ()), ("if", 1, (), (("say",),)),
                      ("if", "a", (), ())):
            self.no(tree_of(wrong))

    def test_while(self):
        self.yes(tree_of(("while", 1, ())))
        self.yes(tree_of(("while", ("name", "a"), (("say", 1),) * 6)))
        for wrong in (("while",), ("while", 1), ("while", 1, (), ()), ("while", (), 1), ("while", True, ()),
                      ("while", None, ()), ("while", 1, []), ("while", 1, None), ("while", 1, ("say", 1)),
                      ("while", 1, (1,)), ["while", 1, ()], ("while", 1, (("say", False),)), ("while", "a", ())):
            self.no(tree_of(wrong))

    def test_try(self):
        self.yes(tree_of(("try", (), "a", ())))
        self.yes(tree_of(("try", (("say", 1),) * 6, "a", (("say", 1),) * 6)))
        for wrong in (("try",), ("try", ()), ("try", (), "a"), ("try", (), ()), ("try", (), "a", (), ()),
                      ("try", (), (), "a"), ("try", "a", (), ()), ("try", [], "a", ()), ("try", (), "a", []),
                      ("try", None, "a", ()), ("try", (), "a", None), ("try", ("say", 1), "a", ()),
                      ("try", (), "a", ("say", 1)), ("try", (1,), "a", ()), ("try", (), "a", (1,)),
                      ["try", (), "a", ()], ("try", (("say", True),), "a", ()), ("try", (), "a", (("say",),))):
            self.no(tree_of(wrong))

    def test_no_other_saying(self):
        for wrong in ((), None, 0, 1, True, "say", "", ("say",), ("put", 1), ("get", "a"), ("add", 1, 2), ("name", "a"),
                      ("call", "none", ()), ("done",), ("go", 0), ("Say", 1), (None, 1), (("say",), 1), (["say"], 1),
                      (True, 1), ("", 1)):
            self.no(tree_of(wrong))
            self.no(tree_of(("say", 1), wrong, ("say", 1)))

    def test_none_to_six_sayings(self):
        for many in range(9):
            sayings = (("say", 1),) * many
            for tree in (tree_of(*sayings), tree_of(("if", 1, sayings, ())), tree_of(("if", 1, (), sayings)),
                         tree_of(("while", 1, sayings)), tree_of(("try", sayings, "a", ())),
                         tree_of(("try", (), "a", sayings))):
                self.assertIs(is_tree(tree), many <= 6, many)
        for wrong in ([], None, 0, "", "say", ("say", 1), [("say", 1)]):
            self.no((("main", (), wrong),))

    def test_each_tuple_and_each_saying_is_looked_at(self):
        for at in range(6):
            tuples = [(name, (), (("say", 1),)) for name in "abcdef"]
            tuples[at] = ("z", (), (("say", True),))
            self.no(tuple(tuples))
            sayings = [("say", 1)] * 6
            sayings[at] = ("say", False)
            self.no(tree_of(*sayings))


class DeepTest(TreeTest):

    def test_values_go_four_deep(self):
        for least in (1, ("name", "a"), ("call", "none", ())):
            for many in range(4):
                for ways in itertools.product(VALUE_WAYS.values(), repeat=many):
                    self.yes(value_tree(wrapped(least, ways)))
            for ways in itertools.product(VALUE_WAYS.values(), repeat=4):
                self.no(value_tree(wrapped(least, ways)))

    def test_sayings_go_four_deep(self):
        for least in (("say", 1), ("set", "a", 1), ("back", 1), ("throw", 1), ("if", 1, (), ()), ("while", 1, ()),
                      ("try", (), "a", ())):
            for many in range(4):
                for ways in itertools.product(SAYING_WAYS.values(), repeat=many):
                    self.yes(tree_of(wrapped(least, ways)))
            for ways in itertools.product(SAYING_WAYS.values(), repeat=4):
                self.no(tree_of(wrapped(least, ways)))

    def test_depths_of_values_and_of_sayings_count_apart(self):
        deep = wrapped(1, [VALUE_WAYS["one"]] * 3)
        deeper = VALUE_WAYS["other"](deep)
        sayings = {
            "set": lambda value: ("set", "a", value), "say": lambda value: ("say", value),
            "back": lambda value: ("back", value), "throw": lambda value: ("throw", value),
            "if": lambda value: ("if", value, (), ()), "while": lambda value: ("while", value, ()),
        }
        for way in SAYING_WAYS.values():
            for saying in sayings.values():
                self.yes(tree_of(wrapped(saying(deep), [way] * 3)))
                self.no(tree_of(wrapped(saying(deeper), [way] * 3)))
                self.no(tree_of(saying(deeper)))
        whiles = ("while", deep, (("while", deep, (("while", deep, (("say", deep),)),)),))
        self.yes(tree_of(whiles))
        self.no(tree_of(("while", 1, (whiles,))))

    def test_the_deepest_one_within_counts(self):
        for ways in itertools.permutations((1, wrapped(1, [VALUE_WAYS["one"]] * 3), ("name", "a"))):
            self.no(value_tree(("call", "three", tuple(ways))))
        deep = wrapped(("say", 1), [SAYING_WAYS["while"]] * 3)
        for at in range(6):
            sayings = [("say", 1)] * 6
            sayings[at] = deep
            self.yes(tree_of(*sayings))
            self.no(tree_of(("while", 1, tuple(sayings))))

    def test_very_deep_things(self):
        for word in ("add", "call", "while", "if"):
            deep = very_deep(word)
            self.no(deep)
            for path, _ in places(EVERY_KIND):
                self.no(put_otherwise(EVERY_KIND, path, deep))
        for way in VALUE_WAYS.values():
            self.no(value_tree(wrapped(1, [way] * 100000)))
        for way in SAYING_WAYS.values():
            self.no(tree_of(wrapped(("say", 1), [way] * 100000)))

    def test_very_wide_things(self):
        wide = (("say", 1),) * 100000
        self.no(tree_of(*wide))
        self.no(tree_of(("while", 1, wide)))
        self.no(value_tree(("call", "three", (1,) * 100000)))
        self.no(tuple(("main", (), ()) for _ in range(100000)))
        self.no((("main", ("a",) * 100000, ()),))
        self.no(value_tree(("name", "a" * 6000)))

    def test_the_greatest_tree(self):
        value = ("name", "abcdefgh")
        for _ in range(3):
            value = ("call", "a", (value, value, value))
        saying = ("say", value)
        for _ in range(3):
            saying = ("if", value, (saying,) * 6, (saying,) * 6)
        tree = tuple((name, ("x", "y", "z"), (saying,) * 6) for name in "abcdef")
        self.yes(tree)
        with self.assertRaises(TooLong) as caught:
            made(tree)
        value_rows = 27 + 9 + 3 + 1
        many = value_rows + 1
        for _ in range(3):
            many = value_rows + 2 + 12 * many
        self.assertEqual(caught.exception.many, 6 * many + 2)


class OtherThingsTest(TreeTest):

    def test_any_things(self):
        for thing in any_things():
            self.no(thing)
            self.no(tree_of(thing))
            self.no((("main", (), thing),) if thing != () else thing)

    def test_a_list_where_a_tuple_is_due(self):
        for path, inner in places(EVERY_KIND):
            if isinstance(inner, tuple):
                self.no(put_otherwise(EVERY_KIND, path, list(inner)))

    def test_another_thing_at_each_place(self):
        for path, inner in places(EVERY_KIND):
            for wrong in (None, True, False, [], {}, 1.0, "", "?", "abcdefghi", ((),), (None,), 10 ** 13, -10 ** 13):
                self.no(put_otherwise(EVERY_KIND, path, wrong))
            if isinstance(inner, tuple):
                self.no(put_otherwise(EVERY_KIND, path, inner + (None,)))

    def test_nothing_that_is_handed_in_is_changed(self):
        listed = [["main", [], [["say", 1]]]]
        for thing in any_things() + [EVERY_KIND, listed, tree_of(["say", [1]])]:
            elder = copy.deepcopy(thing)
            is_tree(thing)
            self.assertEqual(repr(thing), repr(elder))
        elder = copy.deepcopy(EVERY_KIND)
        made(EVERY_KIND)
        self.assertEqual(EVERY_KIND, elder)


class MadeTest(unittest.TestCase):

    def check(self, sayings, rows):
        tree = tree_of(*sayings)
        self.assertIs(is_tree(tree), True)
        program = made(tree)
        self.assertEqual(program[0], ("main", (), (*rows, ("put", 0), ("back",))))
        self.assertIs(is_program(program), True)

    def test_no_sayings(self):
        self.check((), ())

    def test_each_tuple_is_made_to_a_part(self):
        end = (("put", 0), ("back",))
        self.assertEqual(made(tree_of()), (
            ("main", (), end), ("none", (), end), ("one", ("a",), end), ("three", ("a", "b", "c"), end)))
        tree = (("b", ("y", "x"), (("say", ("name", "x")),)), ("a", (), (("back", ("call", "b", (1, 2))),)))
        self.assertEqual(made(tree), (
            ("b", ("y", "x"), (("get", "x"), ("say",), *end)),
            ("a", (), (("put", 1), ("put", 2), ("call", "b"), ("back",), *end)),
        ))
        six = tuple((name, (), ()) for name in "fedcba")
        self.assertEqual(made(six), tuple((name, (), end) for name in "fedcba"))

    def test_values(self):
        for worth in (0, -5, 10 ** 12, -10 ** 12):
            self.check((("say", worth),), (("put", worth), ("say",)))
        self.check((("say", ("name", "abc")),), (("get", "abc"), ("say",)))
        for op in OPS:
            self.check((("say", (op, 1, ("name", "a"))),), (("put", 1), ("get", "a"), (op,), ("say",)))
        self.check((("say", ("less", ("over", 1, 2), ("times", 3, 4))),), (
            ("put", 1), ("put", 2), ("over",), ("put", 3), ("put", 4), ("times",), ("less",), ("say",)))
        self.check((("say", ("call", "none", ())),), (("call", "none"), ("say",)))
        self.check((("say", ("call", "three", (1, ("call", "one", (("name", "a"),)), ("add", 2, 3)))),), (
            ("put", 1), ("get", "a"), ("call", "one"), ("put", 2), ("put", 3), ("add",), ("call", "three"), ("say",)))

    def test_sayings_of_one_value(self):
        self.check((("set", "k", ("add", 1, 2)),), (("put", 1), ("put", 2), ("add",), ("set", "k")))
        for word in ("say", "back", "throw"):
            self.check(((word, ("name", "a")),), (("get", "a"), (word,)))

    def test_one_behind_another(self):
        self.check((("say", 1), ("set", "a", 2), ("throw", 3), ("back", 4)), (
            ("put", 1), ("say",), ("put", 2), ("set", "a"), ("put", 3), ("throw",), ("put", 4), ("back",)))

    def test_if(self):
        self.check((("if", 5, (), ()),), (("put", 5), ("if", 3), ("go", 3)))
        self.check((("if", ("name", "a"), (("say", 1),), (("set", "b", 2), ("throw", 3))),), (
            ("get", "a"), ("if", 7), ("put", 2), ("set", "b"), ("put", 3), ("throw",), ("go", 9), ("put", 1), ("say",)))
        self.check((("if", 5, (("say", 1),), ()),), (("put", 5), ("if", 3), ("go", 5), ("put", 1), ("say",)))
        self.check((("if", 5, (), (("say", 1),)),), (("put", 5), ("if", 5), ("put", 1), ("say",), ("go", 5)))

    def test_while(self):
        self.check((("while", 5, ()),), (("put", 5), ("if", 3), ("go", 4), ("go", 0)))
        self.check((("while", ("below", 1, ("name", "a")), (("say", 1), ("set", "a", 2))),), (
            ("put", 1), ("get", "a"), ("below",), ("if", 5), ("go", 10),
            ("put", 1), ("say",), ("put", 2), ("set", "a"), ("go", 0)))

    def test_try(self):
        self.check((("try", (), "a", ()),), (("try", 3), ("done",), ("go", 4), ("set", "a")))
        self.check((("try", (("say", 1), ("throw", 2)), "why", (("say", ("name", "why")),)),), (
            ("try", 7), ("put", 1), ("say",), ("put", 2), ("throw",), ("done",), ("go", 10),
            ("set", "why"), ("get", "why"), ("say",)))

    def test_rows_are_told_from_where_a_saying_stands(self):
        ahead = (("put", 9), ("say",))
        self.check((("say", 9), ("if", 5, (("say", 1),), (("say", 2),))), (
            *ahead, ("put", 5), ("if", 7), ("put", 2), ("say",), ("go", 9), ("put", 1), ("say",)))
        self.check((("say", 9), ("while", 5, (("say", 1),))), (
            *ahead, ("put", 5), ("if", 5), ("go", 8), ("put", 1), ("say",), ("go", 2)))
        self.check((("say", 9), ("try", (("say", 1),), "a", (("say", 2),))), (
            *ahead, ("try", 7), ("put", 1), ("say",), ("done",), ("go", 10), ("set", "a"), ("put", 2), ("say",)))

    def test_sayings_within_sayings(self):
        inner_if = ("if", ("name", "b"), (("say", 1),), (("say", 2),))
        inner_while = ("while", ("name", "c"), (inner_if,))
        inner_try = ("try", (("while", ("name", "d"), (("say", 3),)),), "f", (inner_if,))
        self.check((("say", 0), ("if", 3, (inner_try,), (inner_while,))), (
            ("put", 0), ("say",),
            ("put", 3), ("if", 16),
            ("get", "c"), ("if", 7), ("go", 15),
            ("get", "b"), ("if", 12), ("put", 2), ("say",), ("go", 14), ("put", 1), ("say",),
            ("go", 4),
            ("go", 33),
            ("try", 25),
            ("get", "d"), ("if", 20), ("go", 23), ("put", 3), ("say",), ("go", 17),
            ("done",), ("go", 33),
            ("set", "f"),
            ("get", "b"), ("if", 31), ("put", 2), ("say",), ("go", 33), ("put", 1), ("say",),
        ))

    def test_sayings_twice_within(self):
        twice = (("if", 1, (), ()), ("while", 2, ()), ("try", (), "a", ()))
        self.check((("while", 3, twice),), (
            ("put", 3), ("if", 3), ("go", 15),
            ("put", 1), ("if", 6), ("go", 6),
            ("put", 2), ("if", 9), ("go", 10), ("go", 6),
            ("try", 13), ("done",), ("go", 14), ("set", "a"),
            ("go", 0),
        ))
        self.check((("try", twice, "b", twice),), (
            ("try", 14),
            ("put", 1), ("if", 4), ("go", 4),
            ("put", 2), ("if", 7), ("go", 8), ("go", 4),
            ("try", 11), ("done",), ("go", 12), ("set", "a"),
            ("done",), ("go", 26),
            ("set", "b"),
            ("put", 1), ("if", 18), ("go", 18),
            ("put", 2), ("if", 21), ("go", 22), ("go", 18),
            ("try", 25), ("done",), ("go", 26), ("set", "a"),
        ))


    def test_somewhat_beyond_the_limits(self):
        value = wrapped(1, [VALUE_WAYS["one"]] * 5)
        sayings = (("say", value), *[("say", 1)] * 7)
        self.assertEqual(made((("main", (), sayings),)), (("main", (), (
            ("put", 1), *[("put", 1), ("add",)] * 5, ("say",), *[("put", 1), ("say",)] * 7, ("put", 0), ("back",))),))
        self.assertEqual(len(made(tuple((name, (), ()) for name in "abcdefgh"))), 8)
        deep = wrapped(("say", 1), [SAYING_WAYS["while"]] * 5)
        self.assertEqual(len(made((("main", (), (deep,)),))[0][2]), 5 * 4 + 2 + 2)


def full_value(deep):
    """A value with two ** deep - 1 rows."""
    return 1 if deep == 1 else ("add", full_value(deep - 1), full_value(deep - 1))


SIXTY = (*[("say", full_value(4))] * 3, ("say", full_value(3)), ("say", 1))
SIXTY_ONE = (*SIXTY[:4], ("say", ("call", "one", (1,))))


class TooLongTest(unittest.TestCase):

    def refused(self, tree):
        self.assertIs(is_tree(tree), True)
        with self.assertRaises(TooLong) as caught:
            made(tree)
        return caught.exception.many

    def test_just_sixty_rows(self):
        program = made(tree_of(*SIXTY))
        self.assertEqual([len(rows) for _, _, rows in program], [60, 2, 2, 2])
        self.assertIs(is_program(program), True)
        whole = made((("main", (), (("while", 1, (*[("say", full_value(4))] * 3, ("say", full_value(2)),)), ("say", 1))),))
        self.assertEqual(len(whole[0][2]), 60)

    def test_just_sixty_one_rows(self):
        self.assertEqual(self.refused(tree_of(*SIXTY_ONE)), 61)

    def test_sayings_that_go_to_rows_count(self):
        fifty_six = (*[("say", full_value(4))] * 3, ("set", "a", full_value(3)))
        for saying, many in ((("if", 1, (), ()), 61), (("while", 1, ()), 62), (("try", (), "a", ()), 62)):
            self.assertEqual(self.refused(tree_of(*fifty_six, saying)), many)

    def test_many_is_of_the_first_such_part(self):
        long = (*SIXTY, ("say", 1))
        tree = (("a", (), SIXTY), ("b", (), long), ("one", ("x",), SIXTY_ONE), ("c", (), (*long[:-1], ("say", full_value(2)))))
        self.assertEqual(self.refused(tree), 62)
        self.assertEqual(self.refused((tree[0], tree[2], tree[1])), 61)
        self.assertEqual(self.refused((tree[0], tree[3], tree[2])), 64)

    def test_much_too_long(self):
        saying = ("say", full_value(4))
        self.assertEqual(self.refused(tree_of(*[("if", 1, (saying,) * 6, (saying,) * 6)] * 6)), 6 * (3 + 12 * 16) + 2)


class ManyTreesTest(unittest.TestCase):
    """Trees put together by numbers that are the same each time."""

    def test_what_is_made_is_a_program(self):
        source = random.Random(20)
        made_ones = 0
        for _ in range(3000):
            tree = random_tree(source, 4)
            self.assertIs(is_tree(tree), True)
            try:
                program = made(tree)
            except TooLong as refused:
                self.assertGreater(refused.many, 60)
                continue
            made_ones += 1
            self.assertIs(is_program(program), True)
            self.assertEqual([part[:2] for part in program], [one[:2] for one in tree])
        self.assertGreater(made_ones, 1000)


if __name__ == "__main__":
    unittest.main()
