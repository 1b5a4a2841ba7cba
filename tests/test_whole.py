"""What holds over the whole: points 2 and 3."""

import random
import unittest

from tests.samples import any_things, random_meanings, random_program
from watchedrun.desk import Desk
from watchedrun.errors import NoHook, NoMark, NoNumbers, NoPart, NoProgram, NoRow, NoText, NoWord, Unsound
from watchedrun.looker import holds
from watchedrun.moments import KINDS
from watchedrun.papers import part_paper, rows_paper, run_paper
from watchedrun.plain import walked
from watchedrun.programs import callers, is_program, names_in, part_number, row_at
from watchedrun.standings import agree, is_sound, standings
from watchedrun.states import begun, is_hook
from watchedrun.tally import Tally, tallied
from watchedrun.texts import read_program, show_program
from watchedrun.trees import is_tree
from watchedrun.watch import Watch

QUIET = (("put", 0), ("back",))
CALLING = (("get", "k"), ("set", "a"), ("put", 3), ("try", 6), ("call", "nothing"), ("throw",), ("away",), ("back",))


def quietly_watched(source):
    """A program whose hooks come to their ends, say nothing, change nothing and raise no fault."""
    program = random_program(source)[:3]
    return program + (("quiet", ("k", "r", "w"), QUIET), ("calling", ("k", "r", "w"), CALLING), ("nothing", (), QUIET))


def quiet_hooks(source, program):
    hooks = []
    for _ in range(source.randrange(1, 4)):
        kinds = tuple(source.sample(KINDS, source.randrange(1, 6)))
        where = source.choice((None, None, (source.choice(program)[0], 0, source.randrange(60))))
        hooks.append((source.choice(("quiet", "calling")), kinds, where))
    return tuple(hooks)


PROGRAM = (
    ("main", ("n",), (("get", "n"), ("say",), ("put", 1), ("back",), ("back",))), ("watch", ("k", "r", "w"), QUIET),
    ("none", (), QUIET),
)
UNSOUND = (*PROGRAM, ("wrong", (), (("add",),)))

# Each function with things that it takes, and with what it may refuse for each of them.
TAKEN = (
    (is_program, (PROGRAM,), ((),)),
    (part_number, (PROGRAM, "main"), ((NoProgram,), (NoPart,))),
    (row_at, (PROGRAM, "main", 0), ((NoProgram,), (NoPart,), (NoRow,))),
    (names_in, (PROGRAM, "main"), ((NoProgram,), (NoPart,))),
    (callers, (PROGRAM,), ((NoProgram,),)),
    (is_tree, (PROGRAM,), ((),)),
    (standings, (PROGRAM, "main"), ((NoProgram,), (NoPart,))),
    (standings, (UNSOUND, "wrong"), ((NoProgram,), (NoPart,))),
    (is_sound, (PROGRAM,), ((NoProgram,),)),
    (agree, (PROGRAM, "main", 0, 1), ((NoProgram,), (NoPart,), (NoRow,), (NoRow,))),
    (agree, (UNSOUND, "wrong", 0, 0), ((NoProgram,), (NoPart,), (NoRow,), (NoRow,))),
    (walked, (PROGRAM, "main", (1,)), ((NoProgram,), (NoPart,), (NoNumbers,))),
    (walked, (UNSOUND, "main", (1,)), ((NoProgram,), (Unsound,), (Unsound,))),
    (begun, (PROGRAM, "main", (1,)), ((NoProgram,), (NoPart,), (NoNumbers,))),
    (is_hook, (PROGRAM, ("watch", ("row",), None)), ((NoProgram,), ())),
    (Watch, (PROGRAM,), ((NoProgram,),)),
    (lambda program, hooks: Watch(program, hooks=hooks), (PROGRAM, ()), ((NoProgram,), (NoHook,))),
    (part_paper, (UNSOUND, "wrong"), ((NoProgram,), (NoPart,))),
    (rows_paper, (PROGRAM, "main", 0, 4), ((NoProgram,), (NoPart,), (NoRow,), (NoRow,))),
    (rows_paper, (UNSOUND, "wrong", 0, 0), ((NoProgram,), (NoPart,), (NoRow,), (NoRow,))),
    (run_paper, (PROGRAM, "main", (1,)), ((NoProgram,), (NoPart,), (NoNumbers,))),
    (lambda program, part, hooks: run_paper(program, part, (1,), hooks=hooks), (PROGRAM, "main", ()),
     ((NoProgram,), (NoPart,), (NoHook,))),
    (holds, (PROGRAM, part_paper(PROGRAM, "main")), ((NoProgram,), ())),
    (show_program, (PROGRAM,), ((NoProgram,),)),
    (read_program, (show_program(PROGRAM),), ((NoText,),)),
    (lambda text: Desk().say(text), ("show",), ((NoWord,),)),
    (lambda part, numbers: Watch(PROGRAM).begin(part, numbers), ("main", (1,)), ((NoPart,), (NoNumbers,))),
    (lambda hook: Watch(PROGRAM).hook(hook), (("watch", ("row",), None),), ((NoHook,),)),
    (lambda number: Watch(PROGRAM, hooks=(("watch", ("row",), None),)).unhook(number), (0,), ((NoHook,),)),
)

REFUSALS = (NoProgram, NoPart, NoRow, NoNumbers, NoHook, NoText, NoWord, NoMark, Unsound)


class AnyThingTest(unittest.TestCase):

    def test_no_other_refusal_than_the_one_due_and_nothing_changed(self):
        for call, good, refusals in TAKEN:
            for place, due in enumerate(refusals):
                for thing in any_things() + [list(PROGRAM), UNSOUND, [1], (1,)]:
                    kept = repr(thing)
                    told = [*good[:place], thing, *good[place + 1:]]
                    try:
                        call(*told)
                    except REFUSALS as refusal:
                        sound = Unsound if thing is UNSOUND or good[0] is UNSOUND else None
                        self.assertIn(type(refusal), (*due, sound), (call, place, kept[:200]))
                    self.assertEqual(repr(thing), kept)

    def test_the_first_refusal_of_several(self):
        """With a wrong thing at a place and behind it: what is due of the first."""
        for call, good, refusals in TAKEN:
            for place, due in enumerate(refusals):
                if len(due) == 1 and good[0] is not UNSOUND:
                    told = [*good[:place], *[None for _ in good[place:]]]
                    with self.assertRaises(due[0]) as caught:
                        call(*told)
                    self.assertIs(type(caught.exception), due[0])


class WholeTest(unittest.TestCase):

    def test_watched_by_hooks_that_change_nothing_it_is_the_plain_run(self):
        source = random.Random(60)
        inner = 0
        for _ in range(80):
            program = quietly_watched(source)
            hooks = quiet_hooks(source, program)
            trace = walked(program, "main", (3, 0), most=15)
            watch, heard = Watch(program, hooks=hooks), []
            tally = Tally()
            watch.listen(lambda moment: heard.append(moment))
            watch.listen(tally.ear())
            watch.begin("main", (3, 0))
            while watch.end() is None and len([one for one in heard if one.kind == "row"]) < len(trace) + 1:
                inner += watch.run(most=5)
            told = trace.moments()
            self.assertEqual(heard[:len(told)], told)
            if trace.end() is not None:
                self.assertEqual((watch.said(), watch.end(), heard), (trace.said(), trace.end(), told))
                self.assertEqual(tally, tallied(told))
        self.assertGreater(inner, 5000)

    def test_trees_made_to_rows_say_and_end_as_they_mean(self):
        source = random.Random(61)
        ends = set()
        for program, numbers, said, end in random_meanings(source, 400):
            ends.add(end[0])
            if end == ("long",):
                continue
            trace = walked(program, "main", numbers, most=3000)
            self.assertEqual((tuple(trace.said()), trace.end()), (said, end))
            watch = Watch(program)
            watch.begin("main", numbers)
            watch.run(most=3000)
            self.assertEqual((tuple(watch.said()), watch.end()), (said, end))
        self.assertEqual(ends, {"back", "fault", "long"})

    def test_what_is_told_may_be_handed_in_again(self):
        source = random.Random(63)
        for _ in range(20):
            program = random_program(source)
            self.assertEqual(read_program(show_program(program)), program)
            for name, names, rows in program:
                self.assertIs(holds(program, part_paper(program, name)), True)
                self.assertIs(holds(program, rows_paper(program, name, 0, len(rows) - 1)), True)
            self.assertIs(holds(program, run_paper(program, "main", (1, 2), most=100)), True)


if __name__ == "__main__":
    unittest.main()
