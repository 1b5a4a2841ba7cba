"""Programs written and read: point 25."""

import random
import re
import unittest

from tests.samples import any_things, places, random_program, very_deep
from watchedrun.errors import NoProgram, NoText
from watchedrun.programs import LONE_WORDS, is_program
from watchedrun.texts import read_program, show_program

MOST = 10 ** 12
END = (("put", 0), ("back",))
PROGRAM = (
    ("main", ("n", "abcdefgh"), (("put", -5), ("get", "n"), ("set", "m"), ("look", "zz"), ("change", "z"),
                                 ("call", "part"), ("go", 0), ("if", 10),
                                 ("try", 3), *[(word,) for word in LONE_WORDS])),
    ("part", (), END),
)
TEXT = """part main n abcdefgh
00 put -5
01 get n
02 set m
03 look zz
04 change z
05 call part
06 go 0
07 if 10
08 try 3
09 add
10 less
11 times
12 over
13 same
14 below
15 twin
16 swap
17 away
18 say
19 back
20 throw
21 done
22 lead
23 turn
part part
00 put 0
01 back"""

NAME = "[a-z]{1,8}"
TENS = "(?:0|[1-9][0-9]{0,39})"
WORTH = "(?:0|-?[1-9][0-9]{0,39}|x0|-?x[1-9a-f][0-9a-f]{0,39})"
HEADING = re.compile(f"part(?: {NAME})+")
ROW = re.compile(f"([0-9][0-9]) (?:put {WORTH}|(?:get|set|look|change|call) {NAME}|(?:go|if|try) {TENS}|{'|'.join(LONE_WORDS)})")


def wrong_row(text):
    """The number of the row that can't stand, None where there is none: by patterns."""
    rows = None
    lines = text.split("\n")
    for at, line in enumerate(lines):
        found = ROW.fullmatch(line)
        if HEADING.fullmatch(line) and rows != 0:
            rows = 0
        elif found and rows is not None and int(found.group(1)) == rows:
            rows += 1
        else:
            return at
    return len(lines) if rows == 0 else None


class TextTest(unittest.TestCase):

    def same(self, program):
        text = show_program(program)
        again = read_program(text)
        self.assertEqual(repr(again), repr(program))
        self.assertEqual(show_program(again), text)
        for _, inner in places(again):
            self.assertIn(type(inner), (tuple, str, int))

    def no_text(self, text, at):
        with self.assertRaises(NoText) as caught:
            read_program(text)
        self.assertEqual(repr(caught.exception.at), repr(at), text[:500] if isinstance(text, str) else None)

    def no_program(self, text):
        self.assertIsNone(wrong_row(text))
        with self.assertRaises(NoProgram) as caught:
            read_program(text)
        self.assertIs(type(caught.exception), NoProgram)

    def test_every_word(self):
        self.assertTrue(is_program(PROGRAM))
        self.assertEqual(show_program(PROGRAM), TEXT)
        self.assertEqual(read_program(TEXT), PROGRAM)
        self.same(PROGRAM)

    def test_programs_of_every_size(self):
        for parts in range(1, 9):
            for rows in (1, 2, 9, 10, 11, 59, 60):
                program = tuple((chr(97 + at) * 8, ("x", "y", "z")[:at % 4],
                                 (("put", at - 3),) * rows) for at in range(parts))
                self.same(program)
        self.same((("a", (), (("go", 0),)),))
        self.assertEqual(show_program((("a", (), (("go", 0),)),)), "part a\n00 go 0")

    def test_worths(self):
        for worth in (0, 1, -1, 9, 10, -10, MOST, -MOST, MOST - 1):
            program = (("a", (), (("put", worth),)),)
            self.same(program)
            self.assertEqual(show_program(program), f"part a\n00 put {worth}")

    def test_worths_by_sixteens(self):
        for text, worth in (("x0", 0), ("x1", 1), ("-x1", -1), ("xa", 10), ("xf", 15), ("-xff", -255), ("x10", 16),
                            ("xe8d4a51000", MOST),
                            ("-xe8d4a51000", -MOST), ("xabcdef", 0xabcdef), ("x123456789", 0x123456789)):
            told = read_program(f"part a\n00 put {text}")
            self.assertEqual(repr(told), repr((("a", (), (("put", worth),)),)))
            self.assertEqual(show_program(told), f"part a\n00 put {worth}")
        for text in ("xe8d4a51001", "-xe8d4a51001", "x" + "f" * 40, "-x1" + "0" * 39):
            self.no_program(f"part a\n00 put {text}")
        for text in ("-x0", "x00", "x01", "-x01", "x", "-x", "xg", "xA", "xF", "X1", "0x1", "x-1", "--x1", "xx1",
                     "x 1", "1x", "x1x", "x" + "f" * 41,
                     "-x" + "1" * 41, "x1-", "x+1", "f", "a", "-f"):
            self.no_text(f"part a\n00 put {text}", 1)

    def test_numbers_in_figures(self):
        for text in ("00", "01", "-0", "-01", "+1", "--1", "1-", "-", "", "1 ", " 1", "1.0", "1e3", "1_0", "1,0",
                     "one", "9" * 41, "-" + "9" * 41, "0" * 40, "\u0661", "\u00b2"):
            self.no_text(f"part a\n00 put {text}", 1)
        for text in ("9" * 40, "-" + "9" * 40, str(MOST + 1), str(-MOST - 1), "1" + "0" * 39):
            self.no_program(f"part a\n00 put {text}")
        for text in ("0", "1", "-1", str(MOST), str(-MOST)):
            self.assertEqual(read_program(f"part a\n00 put {text}")[0][2], (("put", int(text)),))

    def test_numbers_of_rows_that_are_told(self):
        for word in ("go", "if", "try"):
            self.assertEqual(read_program(f"part a\n00 {word} 0"), (("a", (), ((word, 0),)),))
            for text in ("1", "60", "9" * 40):
                self.no_program(f"part a\n00 {word} {text}")
            for text in ("-1", "-0", "00", "01", "x0", "x1", "-x1", "a", "", "9" * 41, "-" + "9" * 40):
                self.no_text(f"part a\n00 {word} {text}", 1)
        self.no_program("part a\n00 try 1\n01 back")

    def test_names(self):
        for name in ("a", "z", "part", "put", "abcdefgh"):
            self.assertEqual(read_program(f"part {name}\n00 get {name}"), ((name, (), (("get", name),)),))
        for name in ("", "A", "aB", "abcdefghi", "a1", "1", "a-b", "a_b", "\u00e9", "a\tb"):
            self.no_text(f"part {name}\n00 back", 0)
            self.no_text(f"part a {name}\n00 back", 0)
            for word in ("get", "set", "look", "change", "call"):
                self.no_text(f"part a\n00 {word} {name}", 1)
        self.no_program("part a\n00 call b")

    def test_so_written_but_no_program(self):
        for text in (
            "part a b c d e\n00 back", "part a b b\n00 back", "part a b c d e f g h i j\n00 back",
            "part a\n00 back\npart a\n00 back",
            "\n".join(f"part {name}\n00 back" for name in "abcdefghi"),
        ):
            self.no_program(text)
        for rows in (61, 62, 99, 100):
            self.no_program("part a\n" + "\n".join(f"{at:02d} back" for at in range(rows)))
        rows = [f"{at:02d} back" for at in range(100)]
        for word in ("100", "00", "99", "01", "", "0100", "a0"):
            self.no_text("\n".join(["part a", *rows, f"{word} back"]), 101)
        self.no_program("\n".join(["part a", *rows, "part b", *rows]))

    def test_no_text_is_ahead_of_no_program(self):
        self.no_text("part a b c d e\n00 back\n01 bac", 2)
        self.no_text("part a\n00 call b\npart c", 3)

    def test_rows_out_twice_and_exchanged(self):
        lines = TEXT.split("\n")
        for at in range(len(lines)):
            for text in (lines[:at] + lines[at + 1:], lines[:at] + lines[at:at + 1] + lines[at:],
                         lines[:at] + [""] + lines[at:],
                         lines[:at] + [lines[at].upper()] + lines[at + 1:],
                         lines[:at] + [lines[at] + " "] + lines[at + 1:],
                         lines[:at] + [" " + lines[at]] + lines[at + 1:], lines[:at] + [lines[at].replace(" ", "  ",
                                                                                                          1)] + lines[at + 1:],
                         lines[:at], lines[:at] + lines[at + 1:at + 2] + lines[at:at + 1] + lines[at + 2:]):
                self.as_by_patterns("\n".join(text))

    def as_by_patterns(self, text):
        at = wrong_row(text)
        if at is not None:
            self.no_text(text, at)
            return
        try:
            program = read_program(text)
        except NoProgram:
            return
        self.assertTrue(is_program(program))
        self.assertEqual(read_program(show_program(program)), program)

    def test_signs_left_out_put_in_and_in_another_ones_place(self):
        text = "part main n\n00 put -50\n01 put x1f\n02 if 0\n03 call part\n04 say\npart part\n00 get abc\n01 back"
        self.assertTrue(is_program(read_program(text)))
        signs = " \n0123456789-xabcdefgprtyz,A~+"
        for at in range(len(text) + 1):
            self.as_by_patterns(text[:at] + text[at + 1:])
            for sign in signs:
                self.as_by_patterns(text[:at] + sign + text[at:])
                self.as_by_patterns(text[:at] + sign + text[at + 1:])

    def test_texts_that_end_too_soon(self):
        for text, at in (
            ("", 0), ("\n", 0), (" ", 0), ("part", 0), ("part ", 0), ("part a", 1), ("part a\n", 1), ("part a\n00", 1),
            ("part a\n00 ", 1),
            ("part a\n00 put", 1), ("part a\n00 put ", 1), ("part a\n00 back\n", 2), ("part a\n00 back\npart b", 3),
            ("part a\n00 back\npart", 2),
            ("part a\n00 back\npart b\n", 3), ("part a\n00 back\npart b\npart c\n00 back", 3),
            ("part a\npart b\n00 back", 1), ("00 back", 0),
            ("part a\n01 back", 1), ("part a\n00 back\n00 back", 2), ("part a\n00 back\n02 back", 2),
            ("part a\n0 back", 1), ("part a\n000 back", 1),
            ("part a\n00 back 0", 1), ("part a\n00 say a", 1), ("part a\n00 foo", 1), ("part a\n00 get", 1),
            ("part a\n00 get a b", 1), ("parts a\n00 back", 0),
            ("Part a\n00 back", 0), ("part a\r\n00 back", 0), ("part a\n00\tback", 1), ("part a\n00 part", 1),
            ("part a\n00 back\n\npart b\n00 back", 2),
        ):
            self.no_text(text, at)
            self.assertEqual(wrong_row(text), at)

    def test_things_that_are_no_texts(self):
        for thing in any_things() + [very_deep(), PROGRAM, [TEXT], (TEXT,), TEXT.encode()]:
            if not isinstance(thing, str):
                self.no_text(thing, 0)
            else:
                self.as_by_patterns(thing)

    def test_no_program_is_not_shown(self):
        for thing in any_things() + [very_deep(), list(PROGRAM), PROGRAM + PROGRAM, TEXT,
                                     (("main", (), (("put", True),)),)]:
            with self.assertRaises(NoProgram):
                show_program(thing)

    def test_random_programs(self):
        source = random.Random(80)
        for _ in range(100):
            self.same(random_program(source))


if __name__ == "__main__":
    unittest.main()
