"""Programs: points 2, 4 and 5."""

import copy
import unittest

from tests.samples import any_things, places, put_otherwise, shown, very_deep
from watchedrun.errors import NoPart, NoProgram, NoRow
from watchedrun.programs import callers, is_program, names_in, part_number, row_at

LONE = (
    "add", "less", "times", "over", "same", "below", "twin", "swap", "away",
    "say", "back", "throw", "done", "lead", "turn",
)

SMALL = (("main", (), (("put", 0), ("back",))),)

EVERY_WORD = (
    ("main", ("n", "m"), (
        ("put", 5), ("get", "n"), ("set", "k"), ("look", "seen"), ("change", "other"), ("call", "help"),
        ("go", 0), ("if", 7), ("try", 1), *[(word,) for word in LONE],
    )),
    ("help", (), (("call", "main"), ("call", "help"), ("call", "main"), ("back",))),
    ("abcdefgh", ("x", "zz", "y"), (("go", 0),)),
)


def one_part(*rows):
    return (("main", (), rows),)


def rows_program(rows):
    return (("main", (), tuple(rows)),)


class IsProgramTest(unittest.TestCase):

    def yes(self, thing):
        self.assertIs(is_program(thing), True, thing)

    def no(self, thing):
        if is_program(thing) is not False:
            self.fail(shown(thing))

    def test_ordinary_programs(self):
        self.yes(SMALL)
        self.yes(EVERY_WORD)
        self.yes(one_part(("back",)))

    def test_one_to_eight_parts(self):
        part = (("back",),)
        for many in range(1, 9):
            self.yes(tuple((name, (), part) for name in "abcdefgh"[:many]))
        self.no(())
        self.no(tuple((name, (), part) for name in "abcdefghi"))

    def test_names_of_parts_are_unlike(self):
        part = (("back",),)
        self.no((("a", (), part), ("a", (), part)))
        self.no((("a", (), part), ("b", (), part), ("a", (), (("put", 0), ("back",)))))
        self.yes((("a", ("a",), part), ("b", ("a",), part)))

    def test_none_to_three_unlike_names_of_a_part(self):
        for names in ((), ("a",), ("b", "a"), ("c", "a", "b")):
            self.yes((("main", names, (("back",),)),))
        for names in (("a", "b", "c", "d"), ("a", "a"), ("a", "b", "a"), ("a", "b", "b"), ("a", ""), (1,), "abc", None):
            self.no((("main", names, (("back",),)),))

    def test_a_part_has_three_things(self):
        for part in (("main", ()), ("main", (), (("back",),), ()), ("main",), (), ("main", (("back",),))):
            self.no((part,))

    def test_one_to_sixty_rows(self):
        for many in range(1, 61):
            self.yes(rows_program([("back",)] * many))
        self.no(rows_program([]))
        self.no(rows_program([("back",)] * 61))
        self.no(rows_program([("back",)] * 5000))

    def test_words_alone(self):
        for word in LONE:
            self.yes(one_part((word,)))
            for behind in (0, "a", "main", None, ()):
                self.no(one_part((word, behind)))
        for word in ("put", "get", "set", "look", "change", "call", "go", "if", "try"):
            self.no(one_part((word,)))

    def test_words_with_something_behind(self):
        rows = (("put", 0), ("get", "a"), ("set", "a"), ("look", "a"), ("change", "a"), ("call", "main"),
                ("go", 0), ("if", 0), ("try", 0))
        for row in rows:
            self.yes(one_part(row))
            for wrong in (row[:1], row + (0,), row + (row[1],), row + (None,), row[1:], row[::-1]):
                self.no(one_part(wrong))

    def test_no_other_word(self):
        for word in ("", "ADD", "add ", "plus", "name", "while", "part", None, 0, True, ("add",), ["add"], "x" * 6000):
            self.no(one_part((word,)))
            for behind in (0, "a", "main"):
                self.no(one_part((word, behind)))
        self.no(one_part(()))
        self.no(one_part("add"))
        self.no(one_part(None))

    def test_worths(self):
        for worth in (0, 1, -1, 10 ** 12, -10 ** 12, 10 ** 12 - 1, 1 - 10 ** 12):
            self.yes(one_part(("put", worth)))
        for worth in (10 ** 12 + 1, -10 ** 12 - 1, 10 ** 39, -10 ** 39, True, False, None, "1", "", (1,), [1], ()):
            self.no(one_part(("put", worth)))

    def test_names(self):
        for name in ("a", "z", "abcdefgh", "zyxwvuts", "put"):
            for word in ("get", "set", "look", "change"):
                self.yes(one_part((word, name)))
            self.yes(((name, (), (("call", name),)),))
            self.yes((("main", (name,), (("back",),)),))
        wrong = ("", "abcdefghi", "A", "aB", "Ab", "a1", "1a", "7", "a b", " a", "a ", "a_b", "_", "a-b", "`", "{", "@",
                 "[", "a\nb", "a\n", "~", "\u00e9", "\u00df", "\u03b1", "\u00aa", None, 0, 1, True, ("a",), ["a"], ())
        for name in wrong:
            for word in ("get", "set", "look", "change", "call"):
                self.no(one_part((word, name)))
            self.no(((name, (), (("back",),)),))
            self.no((("main", (name,), (("back",),)),))
            self.no((("main", ("a", name), (("back",),)),))

    def test_calls_tell_a_part(self):
        self.yes((("a", (), (("call", "b"),)), ("b", (), (("call", "a"), ("call", "b")))))
        self.no((("a", (), (("call", "b"),)),))
        self.no((("a", ("b",), (("call", "b"),)),))
        self.no((("a", (), (("back",),)), ("b", (), (("call", "c"),))))
        for wrong in (0, None, True, ("a",), ["a"], ""):
            self.no((("a", (), (("call", wrong),)),))

    def test_numbers_of_rows(self):
        for word in ("go", "if", "try"):
            self.yes(one_part((word, 0), ("back",), ("back",)))
            self.yes(one_part((word, 2), ("back",), ("back",)))
            self.yes(one_part(("back",), ("back",), (word, 2)))
            self.yes(rows_program([("back",)] * 59 + [(word, 59)]))
            for wrong in (3, 4, 60, -1, -3, 10 ** 39, True, False, None, "0", "", (0,), [0]):
                self.no(one_part(("back",), ("back",), (word, wrong)))
                self.no(one_part((word, wrong), ("back",), ("back",)))
            self.no(rows_program([("back",)] * 59 + [(word, 60)]))

    def test_a_try_tells_not_the_row_behind_it(self):
        for at in range(4):
            rows = [("back",)] * 5
            for told in range(5):
                rows[at] = ("try", told)
                self.assertIs(is_program(rows_program(rows)), told != at + 1)
                rows[at] = ("go", told)
                self.yes(rows_program(rows))
                rows[at] = ("if", told)
                self.yes(rows_program(rows))

    def test_a_part_is_looked_at_wherever_it_stands(self):
        good = (("back",),)
        for at in range(8):
            parts = [(name, (), good) for name in "abcdefgh"]
            for bad in (("z", (), (("add", 1),)), ("z", (), ()), ("z", ["a"], good), ("Z", (), good), ("z", ()), None):
                parts[at] = bad
                self.no(tuple(parts))

    def test_a_row_is_looked_at_wherever_it_stands(self):
        for at in range(60):
            rows = [("back",)] * 60
            rows[at] = ("put", True)
            self.no(rows_program(rows))

    def test_any_things(self):
        for thing in any_things():
            self.no(thing)

    def test_a_list_where_a_tuple_is_due(self):
        for path, inner in places(EVERY_WORD):
            if isinstance(inner, tuple):
                self.no(put_otherwise(EVERY_WORD, path, list(inner)))

    def test_another_thing_at_each_place(self):
        for path, inner in places(EVERY_WORD):
            for wrong in (None, True, False, [], {}, 1.0, "", "?", "abcdefghi", ((),), (None,), 10 ** 13, -10 ** 13):
                self.no(put_otherwise(EVERY_WORD, path, wrong))
            if isinstance(inner, tuple):
                self.no(put_otherwise(EVERY_WORD, path, inner + (None,)))

    def test_very_deep_things(self):
        deep = very_deep()
        self.no(deep)
        for path, _ in places(EVERY_WORD):
            self.no(put_otherwise(EVERY_WORD, path, deep))


class ToldTest(unittest.TestCase):

    def test_part_number(self):
        self.assertEqual([part_number(EVERY_WORD, part) for part in ("main", "help", "abcdefgh")], [0, 1, 2])
        eight = tuple((name, (), (("back",),)) for name in "hgfedcba")
        self.assertEqual([part_number(eight, part) for part in "hgfedcba"], list(range(8)))

    def test_row_at(self):
        for name, _, rows in EVERY_WORD:
            for number, row in enumerate(rows):
                self.assertEqual(row_at(EVERY_WORD, name, number), row)
        self.assertEqual(row_at(rows_program([("put", k) for k in range(60)]), "main", 59), ("put", 59))

    def test_names_in(self):
        self.assertEqual(names_in(EVERY_WORD, "main"), ["k", "m", "n", "other", "seen"])
        self.assertEqual(names_in(EVERY_WORD, "help"), [])
        self.assertEqual(names_in(EVERY_WORD, "abcdefgh"), ["x", "y", "zz"])

    def test_names_in_tells_each_word_and_each_name_once(self):
        for word in ("get", "set", "look", "change"):
            program = (("main", ("b",), ((word, "c"), (word, "a"), (word, "c"), (word, "b"))), ("d", ("e",), (("back",),)))
            self.assertEqual(names_in(program, "main"), ["a", "b", "c"])
        program = (("main", ("z", "a"), (("call", "main"), ("put", 1), ("say",), ("go", 0))),)
        self.assertEqual(names_in(program, "main"), ["a", "z"])
        mixed = (("main", (), (("change", "b"), ("look", "b"), ("set", "aa"), ("get", "b"), ("get", "a"))),)
        self.assertEqual(names_in(mixed, "main"), ["a", "aa", "b"])

    def test_callers(self):
        self.assertEqual(callers(SMALL), [[]])
        self.assertEqual(callers(EVERY_WORD), [["help"], ["help", "main"], []])
        program = (
            ("z", (), (("call", "b"), ("call", "a"), ("call", "z"), ("call", "b"))),
            ("b", ("z",), (("get", "z"),)),
            ("a", (), (("set", "b"), ("call", "z"))),
        )
        self.assertEqual(callers(program), [["a", "b", "z"], [], ["z"]])

    def test_lists_are_new_each_time(self):
        told = names_in(EVERY_WORD, "main")
        self.assertIsInstance(told, list)
        told.clear()
        self.assertEqual(names_in(EVERY_WORD, "main"), ["k", "m", "n", "other", "seen"])
        told = callers(EVERY_WORD)
        for inner in told:
            self.assertIsInstance(inner, list)
            inner.append("more")
        told.clear()
        self.assertEqual(callers(EVERY_WORD), [["help"], ["help", "main"], []])
        twice = (("a", (), (("back",),)), ("b", (), (("back",),)))
        told = callers(twice)
        told[0].append("x")
        self.assertEqual(told, [["x"], []])


class RefusedTest(unittest.TestCase):

    def not_programs(self):
        return any_things() + [
            list(EVERY_WORD), EVERY_WORD + (None,), (("main", (), [("back",)]),), (("main", (), (("put", True),)),),
        ]

    def test_no_program_is_ahead_of_all_else(self):
        for thing in self.not_programs():
            for part in ("main", "none", None, [], 0, True):
                for call in (part_number, names_in):
                    with self.assertRaises(NoProgram):
                        call(thing, part)
                for row in (0, 99, None, True, [1]):
                    with self.assertRaises(NoProgram):
                        row_at(thing, part, row)
            with self.assertRaises(NoProgram):
                callers(thing)

    def test_no_part_is_ahead_of_no_row(self):
        for part in any_things() + ["mai", "maine", "n", "back"]:
            for call in (part_number, names_in):
                with self.assertRaises(NoPart) as caught:
                    call(EVERY_WORD, part)
                self.assertEqual(repr(caught.exception.name), repr(part))
            for row in (0, 99, None, True, [1]):
                with self.assertRaises(NoPart) as caught:
                    row_at(EVERY_WORD, part, row)
                self.assertEqual(repr(caught.exception.name), repr(part))

    def test_no_row(self):
        things = [thing for thing in any_things() if thing is True or thing is False or thing not in (0, 1)]
        for row in things + [2, 3, 60, -2, -3, "1"]:
            with self.assertRaises(NoRow) as caught:
                row_at(SMALL, "main", row)
            self.assertEqual(repr(caught.exception.row), repr(row))

    def test_a_truth_is_no_number_of_a_row(self):
        for row in (True, False):
            with self.assertRaises(NoRow) as caught:
                row_at(SMALL, "main", row)
            self.assertIs(caught.exception.row, row)

    def test_what_is_done_later_changes_no_field(self):
        handed = ["main", [1]]
        with self.assertRaises(NoPart) as caught:
            part_number(SMALL, handed)
        no_part = caught.exception
        with self.assertRaises(NoRow) as caught:
            row_at(SMALL, "main", handed)
        no_row = caught.exception
        handed[1].append(2)
        handed.append(3)
        self.assertEqual((no_part.name, no_row.row), (["main", [1]], ["main", [1]]))
        no_part.name[1].clear()
        self.assertEqual((handed, no_row.row), (["main", [1, 2], 3], ["main", [1]]))

    def test_very_deep_things(self):
        deep = very_deep()
        with self.assertRaises(NoPart) as caught:
            part_number(SMALL, deep)
        self.check_same_depth(caught.exception.name, deep)
        with self.assertRaises(NoPart):
            names_in(SMALL, deep)
        with self.assertRaises(NoRow) as caught:
            row_at(SMALL, "main", deep)
        self.check_same_depth(caught.exception.row, deep)

    def check_same_depth(self, told, deep):
        while isinstance(deep, tuple):
            self.assertEqual((told[0], told[2], len(told)), (deep[0], deep[2], 3))
            told, deep = told[1], deep[1]
        self.assertEqual(told, deep)


class HandedInTest(unittest.TestCase):

    def test_nothing_that_is_handed_in_is_changed(self):
        listed = [["main", [], [["put", 0], ["back"]]]]
        for thing in any_things() + [SMALL, EVERY_WORD, listed]:
            elder = copy.deepcopy(thing)
            is_program(thing)
            for call in (
                lambda: part_number(thing, "main"), lambda: part_number(SMALL, thing),
                lambda: names_in(thing, "main"), lambda: names_in(EVERY_WORD, thing),
                lambda: row_at(thing, "main", 0), lambda: row_at(SMALL, thing, 0), lambda: row_at(SMALL, "main", thing),
                lambda: callers(thing),
            ):
                try:
                    call()
                except (NoProgram, NoPart, NoRow):
                    pass
                self.assertEqual(repr(thing), repr(elder))


if __name__ == "__main__":
    unittest.main()
