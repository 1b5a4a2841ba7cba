"""The desk: points 27 and 28."""

import random
import unittest

from tests.samples import any_things, random_hooks, random_meanings, random_program, very_deep
from watchedrun.desk import Desk
from watchedrun.errors import Busy, NoHook, NoMark, NoNumbers, NoPart, NoProgram, NoRow, NoText, NoWord, TooMany, Unsound
from watchedrun.standings import agree
from watchedrun.tally import Tally
from watchedrun.texts import read_program, show_program
from watchedrun.watch import Watch

FIRST = "part main\n00 put 0\n01 back"
TEXT = """part main n
00 try 5
01 get n
02 call sub
03 done
04 back
05 say
06 put 0
07 back
part sub x
00 get x
01 if 4
02 put 7
03 throw
04 get x
05 back
part watch k r w
00 get r
01 say
02 put 0
03 back
part none
00 put 1
01 put 2
02 put -3
03 back"""
ASKED = ("said", "end", "at", "pile", "count", "show", "agree main 0 1")


def desk_of(text=TEXT, *rows):
    desk = Desk()
    desk.say("program\n" + text)
    for row in rows:
        desk.say(row)
    return desk


def answers(desk):
    """All that is told without changing anything."""
    return [desk.say(row) for row in ASKED]


class DeskTest(unittest.TestCase):

    def says(self, desk, *rows):
        for row, answer in rows:
            self.assertEqual(repr(desk.say(row)), repr(answer), row)

    def refuses(self, desk, told, error, **fields):
        """What is told is refused so, and changes no answer."""
        ahead = answers(desk)
        with self.assertRaises(error) as caught:
            desk.say(told)
        self.assertIs(type(caught.exception), error)
        for name, value in fields.items():
            self.assertEqual(repr(getattr(caught.exception, name)), repr(value), told)
        self.assertEqual(answers(desk), ahead)

    def test_a_new_desk(self):
        self.says(Desk(), ("show", FIRST), ("said", "-"), ("end", "none"), ("at", "-"), ("pile", "-"), ("count", "-"),
                  ("run 5", "0"),
                  ("run 500", "0"), ("end", "none"), ("agree main 0 0", "yes"), ("agree main 0 1", "no"),
                  ("begin main", "ok"), ("end", "going"),
                  ("at", "main:0"), ("pile", "-"), ("count", "-"), ("run 0", "0"), ("count", "-"), ("run 1", "1"),
                  ("at", "main:1"), ("pile", "0"),
                  ("count", "main:0:1"), ("run 9", "1"), ("end", "back 0"), ("at", "-"), ("pile", "-"),
                  ("count", "main:0:1 main:1:1"), ("said", "-"))

    def test_a_run(self):
        desk = desk_of()
        self.says(desk, ("show", TEXT), ("begin main 0", "ok"), ("run 3", "3"), ("at", "main:2 sub:0"), ("pile", "-"),
                  ("run 1", "1"), ("pile", "0"),
                  ("at", "main:2 sub:1"), ("run 3", "3"), ("at", "main:5"), ("pile", "7"), ("said", "-"),
                  ("run 1", "1"), ("said", "7"),
                  ("end", "going"), ("run 500", "2"), ("end", "back 0"), ("at", "-"), ("pile", "-"), ("run 500", "0"),
                  ("count", "main:0:1 main:1:1 main:2:1 main:5:1 main:6:1 main:7:1 sub:0:1 sub:1:1 sub:2:1 sub:3:1"),
                  ("begin sub 0", "ok"), ("said", "-"), ("count", "-"), ("end", "going"), ("run 9", "4"),
                  ("end", "fault 7"),
                  ("begin sub -12", "ok"), ("run 9", "4"), ("end", "back -12"), ("begin none", "ok"), ("run 3", "3"),
                  ("pile", "1 2 -3"))

    def test_count_is_sorted_by_numbers(self):
        text = "part main\n" + "\n".join(f"{at:02d} go {at + 1}" for at in range(11)) + "\n11 put 0\n12 back"
        self.says(desk_of(text), ("begin main", "ok"), ("run 20", "13"),
                  ("count", " ".join(f"main:{at}:1" for at in range(13))))

    def test_program(self):
        desk = desk_of(TEXT, "hook watch row", "begin main 0", "run 9", "mark a")
        self.assertNotEqual(desk.say("said"), "-")
        self.says(desk, ("program\n" + TEXT, "ok"), ("said", "-"), ("end", "none"), ("at", "-"), ("pile", "-"),
                  ("count", "-"), ("show", TEXT))
        self.refuses(desk, "back a", NoMark, name="a")
        self.refuses(desk, "unhook 0", NoHook)
        self.says(desk, ("program\n" + FIRST, "ok"), ("show", FIRST))
        self.refuses(desk, "begin sub 0", NoPart, name="sub")

    def test_program_with_worths_by_sixteens(self):
        desk = desk_of("part main\n00 put -x1f\n01 back")
        self.says(desk, ("show", "part main\n00 put -31\n01 back"), ("begin main", "ok"), ("run 2", "2"),
                  ("end", "back -31"))

    def test_programs_that_are_refused(self):
        for desk in (Desk(), desk_of(TEXT, "hook watch row", "begin main 0", "run 5", "mark a")):
            for text, at in (("", 0), ("part", 0), ("part a", 1), ("part a\n01 back", 1), ("part a\n00 back\n", 2),
                             ("part a\n00 back\npart b", 3), ("\n", 0),
                             ("program\npart a\n00 put 0\n01 back", 0)):
                self.refuses(desk, "program\n" + text, NoText, at=at)
            for text in ("part a b c d e\n00 back", "part a\n00 call b", "part a\n00 go 7",
                         f"part a\n00 put {10 ** 13}"):
                self.refuses(desk, "program\n" + text, NoProgram)
            self.refuses(desk, "program\npart a\n00 put 0\n01 back\npart b\n00 put 0\n01 add\npart c\n00 away",
                         Unsound, part="b", paper=("lacks", "b", [0, 1]))
            for text in ("program", "program ", "program x", "program \n" + FIRST, " program\n" + FIRST,
                         "program x\n" + FIRST, "Program\n" + FIRST,
                         "programs\n" + FIRST, "\nprogram\n" + FIRST, "program" + FIRST, "show\nprogram\n" + FIRST):
                self.refuses(desk, text, NoWord)

    def test_a_text_of_eight_parts_of_sixty_rows(self):
        rows = "\n".join(f"{at:02d} put -99999999{at:04d}" for at in range(0, 59)) + "\n59 back"
        text = "\n".join(f"part {chr(97 + at) * 8} aaaaaaaa bbbbbbbb cccccccc\n{rows}" for at in range(8))
        self.assertGreater(len(text), 9000)
        desk = desk_of(text)
        self.says(desk, ("show", text), ("begin hhhhhhhh 1 2 3", "ok"), ("run 500", "60"),
                  ("end", "back -999999990058"))

    def test_hooks(self):
        desk = desk_of()
        self.says(desk, ("hook watch row", "0"), ("hook watch row,back,call main 1 2", "1"),
                  ("hook watch fault sub 0 59", "2"),
                  ("hook watch caught,fault,back,row,call", "3"))
        self.refuses(desk, "hook watch row", TooMany)
        self.says(desk, ("unhook 1", "ok"), ("hook watch call none 3 3", "3"), ("unhook 0", "ok"), ("unhook 0", "ok"),
                  ("unhook 0", "ok"))
        self.says(desk, ("unhook 0", "ok"))
        self.refuses(desk, "unhook 0", NoHook)

    def test_hooks_run(self):
        desk = desk_of(TEXT, "hook watch row main 1 2")
        self.says(desk, ("begin main 5", "ok"), ("run 500", "17"), ("said", "1 2"), ("end", "back 5"),
                  ("count", "main:0:1 main:1:1 main:2:1 main:3:1 main:4:1 sub:0:1 sub:1:1 sub:4:1 sub:5:1"))
        self.says(desk, ("begin main 5", "ok"), ("run 1", "1"), ("at", "main:1 watch:0"), ("run 1", "1"),
                  ("pile", "1"), ("count", "main:0:1"))
        self.refuses(desk, "hook watch row", Busy)
        self.refuses(desk, "unhook 0", Busy)
        self.refuses(desk, "unhook 7", Busy)
        self.refuses(desk, "hook main row", Busy)

    def test_refusals_of_hooks(self):
        desk = desk_of(TEXT, "hook watch row", "begin main 0", "mark a")
        for row in ("hook main row", "hook none row", "hook sub row main 0 1", "hook watch row main 2 1",
                    "hook watch row main 0 60", "hook watch row main 60 60",
                    f"hook watch row main 0 {'9' * 40}", "unhook 1", f"unhook {'9' * 40}", "unhook 4"):
            self.refuses(desk, row, NoHook)
        for row, name in (("hook nobody row", "nobody"), ("hook  row", ""), ("hook watch row nobody 0 1", "nobody"),
                          ("hook one row two 0 1", "one"),
                          ("hook watch row  0 1", ""), ("hook A-b! row", "A-b!"), ("hook watch row Main 9 0", "Main"),
                          ("hook nobody row main 9 0", "nobody")):
            self.refuses(desk, row, NoPart, name=name)
        for row in ("hook watch", "hook", "hook watch row main", "hook watch row main 0", "hook watch row main 0 1 2",
                    "hook watch rows", "hook watch ",
                    "hook watch row,row", "hook watch row,", "hook watch ,row", "hook watch row, back",
                    "hook watch Row", "hook nobody rows", "hook watch row;back",
                    "hook watch row main a 1", "hook watch row main 0 -1", "hook watch row main -1 0",
                    "hook watch row main 00 1", "hook watch row main 0 x1",
                    f"hook watch row main 0 {'9' * 41}", "hook watch row main 0 1 ", "hook watch row ",
                    "hook nobody row nobody 0 01", "unhook", "unhook ", "unhook a",
                    "unhook -1", "unhook 01", "unhook 0 1", "unhook x0", "unhook 0 ", "unhook  0", "hook watch row\n",
                    "hook nobody\nrow", "hook watch call,row,back,fault,caught,call"):
            self.refuses(desk, row, NoWord)
        self.says(desk, ("back a", "ok"), ("unhook 0", "ok"))

    def test_begin(self):
        desk = desk_of(TEXT, "begin main 3", "run 2", "mark a")
        for row, many in (("begin main", 1), ("begin main 1 2", 1), ("begin none 0", 0), ("begin watch 1 2", 3),
                          (f"begin main {10 ** 12 + 1}", 1),
                          (f"begin main -{'9' * 40}", 1), ("begin watch 1 2 3 4 5 6 7 8", 3)):
            self.refuses(desk, row, NoNumbers, many=many)
        for row, name in (("begin nobody", "nobody"), ("begin ", ""), ("begin nobody 1 2", "nobody"), ("begin  1", ""),
                          ("begin MAIN 1", "MAIN"),
                          ("begin main: 3", "main:"), ("begin 5", "5"), ("begin abcdefghi", "abcdefghi")):
            self.refuses(desk, row, NoPart, name=name)
        for row in ("begin", "begin main x1", "begin main a", "begin main 1 ", "begin main  1", "begin main 01",
                    "begin main -0", "begin nobody a", "begin main +1",
                    f"begin main {'9' * 41}", "begin main 1\n", "begin\nmain 1", " begin main 1", "Begin main 1",
                    "begin main --1", "begin main -"):
            self.refuses(desk, row, NoWord)
        self.says(desk, (f"begin main {10 ** 12}", "ok"), ("run 4", "4"), ("pile", str(10 ** 12)),
                  (f"begin watch -1 0 {-10 ** 12}", "ok"), ("run 500", "4"),
                  ("said", "0"))

    def test_run(self):
        desk = desk_of("part main\n00 put 3\n01 say\n02 go 0", "begin main")
        self.says(desk, ("run 0", "0"), ("run 1", "1"), ("run 499", "499"), ("run 500", "500"), ("end", "going"),
                  ("count", "main:0:334 main:1:333 main:2:333"))
        for row in ("run", "run ", "run a", "run -1", "run 501", "run 1000", f"run {'9' * 40}", f"run {'9' * 41}",
                    "run 01", "run 5 5", "run 5 ", "run x5", "run 5\n", "run  5"):
            self.refuses(desk, row, NoWord)

    def test_marks(self):
        desk = desk_of(TEXT, "hook watch row main 1 1", "begin main 0")
        self.says(desk, ("mark a", "ok"), ("run 3", "3"), ("mark b", "ok"))
        kept = answers(desk)
        self.says(desk, ("run 500", "11"), ("mark abcdefgh", "ok"))
        ended = answers(desk)
        self.says(desk, ("back b", "ok"))
        self.assertEqual(answers(desk), kept)
        self.says(desk, ("run 500", "11"))
        self.assertEqual(answers(desk), ended)
        self.says(desk, ("back a", "ok"), ("end", "going"), ("count", "-"), ("at", "main:0"), ("run 500", "14"))
        self.assertEqual(answers(desk), ended)
        self.says(desk, ("back b", "ok"), ("mark a", "ok"), ("back abcdefgh", "ok"), ("back a", "ok"))
        self.assertEqual(answers(desk), kept)
        self.says(desk, ("begin none", "ok"), ("back b", "ok"))
        self.assertEqual(answers(desk), kept)

    def test_a_mark_where_nothing_is_begun(self):
        desk = desk_of(TEXT, "mark a", "begin main 0", "run 4", "back a")
        self.says(desk, ("end", "none"), ("at", "-"), ("count", "-"), ("run 5", "0"))

    def test_the_tally_that_back_puts_back(self):
        desk = desk_of("part main\n00 put 3\n01 say\n02 go 0", "begin main", "run 4", "mark a", "run 100", "mark b",
                       "back a")
        self.says(desk, ("count", "main:0:2 main:1:1 main:2:1"), ("run 2", "2"),
                  ("count", "main:0:2 main:1:2 main:2:2"), ("back a", "ok"),
                  ("count", "main:0:2 main:1:1 main:2:1"), ("back b", "ok"),
                  ("count", "main:0:35 main:1:35 main:2:34"), ("begin main", "ok"), ("count", "-"),
                  ("back a", "ok"), ("count", "main:0:2 main:1:1 main:2:1"))

    def test_marks_go_where_hooks_are_told_or_taken_off(self):
        desk = desk_of(TEXT, "begin main 0", "mark a", "mark b")
        self.says(desk, ("back a", "ok"), ("back b", "ok"), ("hook watch row main 5 5", "0"))
        for name in "ab":
            self.refuses(desk, f"back {name}", NoMark, name=name)
        self.says(desk, ("mark a", "ok"))
        for row, error in (("hook watch row main 5 4", NoHook), ("hook nobody row", NoPart),
                           ("hook watch rows", NoWord), ("unhook 1", NoHook), ("unhook x", NoWord)):
            self.refuses(desk, row, error)
            self.says(desk, ("back a", "ok"))
        self.says(desk, ("unhook 0", "ok"))
        self.refuses(desk, "back a", NoMark, name="a")

    def test_refusals_of_marks(self):
        desk = desk_of(TEXT, "begin main 0", "mark a")
        for word in ("mark", "back"):
            for name in ("", "A", "abcdefghi", "a1", "1", "a-b", "a b", " a", "a ", "a\n", "-"):
                self.refuses(desk, f"{word} {name}", NoWord)
            self.refuses(desk, word, NoWord)
        for name in ("b", "main", "mark", "abcdefgh"):
            self.refuses(desk, f"back {name}", NoMark, name=name)
        self.says(desk, ("back a", "ok"))

    def test_agree(self):
        desk = desk_of()
        for one in range(6):
            for other in range(6):
                self.says(desk, (f"agree sub {one} {other}", "yes" if agree(read_program(TEXT), "sub", one,
                                                                            other) else "no"))
        for row, wrong in (("agree sub 6 0", 6), ("agree sub 0 6", 6), ("agree sub 7 8", 7),
                           (f"agree sub 0 {'9' * 40}", int("9" * 40))):
            self.refuses(desk, row, NoRow, row=wrong)
        for row, name in (("agree nobody 0 1", "nobody"), ("agree  0 1", ""), ("agree nobody 99 98", "nobody"),
                          ("agree S! 0 0", "S!")):
            self.refuses(desk, row, NoPart, name=name)
        for row in ("agree", "agree sub", "agree sub 0", "agree sub 0 0 0", "agree sub a 0", "agree sub 0 -1",
                    "agree nobody 0 x", "agree sub 00 0", "agree sub 0 0 ", "agree sub  0 0",
                    "agree sub 0\n0"):
            self.refuses(desk, row, NoWord)

    def test_words_that_stand_alone(self):
        desk = desk_of(TEXT, "begin main 0")
        for word in ("said", "end", "at", "pile", "count", "show"):
            for row in (f"{word} ", f" {word}", f"{word} x", f"{word}\n", word.upper(), word + "s", word[:-1],
                        f"{word}  ", f"\n{word}"):
                self.refuses(desk, row, NoWord)

    def test_things_that_are_no_texts_and_other_words(self):
        for desk in (Desk(), desk_of(TEXT, "begin main 0", "run 2")):
            for thing in any_things() + [very_deep(), None, b"said", ["said"], ("said",), "", " ", "\n", "state",
                                         "hooks", "put", "main", "ok", "-", "part main", FIRST, "a" * 6000]:
                self.refuses(desk, thing, NoWord)

    def test_a_line_end_where_none_is_due(self):
        desk = desk_of(TEXT, "begin main 0")
        for row in ("begin ma\nin 1", "begin main\n", "begin \n", "begin \n 1", "agree su\nb 0 1", "agree \n 0 1",
                    "hook wat\nch row", "hook \n row",
                    "hook watch row \n 0 1", "begin nobody\n", "run 1\n", "mark a\n", "back a\nb"):
            self.refuses(desk, row, NoWord)

    def test_two_desks_side_by_side(self):
        one, other = desk_of(TEXT, "hook watch row"), desk_of(TEXT, "hook watch row")
        self.says(one, ("begin main 0", "ok"), ("run 7", "7"), ("mark a", "ok"))
        self.says(other, ("end", "none"), ("said", "-"), ("count", "-"))
        self.refuses(other, "back a", NoMark, name="a")
        self.says(one, ("program\n" + FIRST, "ok"))
        self.says(other, ("show", TEXT), ("unhook 0", "ok"))

    def test_against_a_watch(self):
        source = random.Random(90)
        for _ in range(40):
            program, hooks = random_program(source), random_hooks(source)
            desk, watch, tally = desk_of(show_program(program)), Watch(program, hooks=hooks), Tally()
            watch.listen(tally.ear())
            for name, kinds, where in hooks:
                desk.say(f"hook {name} {','.join(kinds)}" + ("" if where is None else f" {where[0]} {where[1]} {where[2]}"))
            watch.begin("main", (4, -2))
            desk.say("begin main 4 -2")
            for _ in range(6):
                many = source.randrange(20)
                self.assertEqual(desk.say(f"run {many}"), str(watch.run(most=many)))
                frames, said, end = watch.state()
                self.assertEqual(desk.say("said"), " ".join(map(str, said)) or "-")
                self.assertEqual(desk.say("end"), "going" if end is None else f"{end[0]} {end[1]}")
                self.assertEqual(desk.say("at"), " ".join(f"{program[frame[0]][0]}:{frame[1]}" for frame in frames) or "-")
                self.assertEqual(desk.say("pile"), (" ".join(map(str, frames[-1][2])) if frames else "") or "-")
                self.assertEqual(desk.say("count"), " ".join(f"{part}:{row}:{many}" for part, row,
                                                             many in tally.rows()) or "-")

    def test_a_tree_made_written_told_to_a_desk_and_run_there(self):
        source = random.Random(91)
        ends = set()
        for program, numbers, said, end in random_meanings(source, 150):
            if end == ("long",):
                continue
            desk = Desk()
            desk.say("program\n" + show_program(program))
            desk.say(f"begin main {numbers[0]} {numbers[1]}")
            while desk.say("end") == "going":
                desk.say("run 500")
            ends.add(end[0])
            self.assertEqual((desk.say("said"), desk.say("end")), (" ".join(map(str, said)) or "-",
                                                                   f"{end[0]} {end[1]}"))
        self.assertEqual(ends, {"back", "fault"})


if __name__ == "__main__":
    unittest.main()
