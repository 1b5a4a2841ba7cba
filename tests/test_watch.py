"""Watches, their hooks and their ears: points 21 and 22."""

import copy
import random
import unittest

from tests.machine import run_machine
from tests.reference import all_standings
from tests.samples import any_things, random_hooks, random_program, very_deep
from watchedrun.changing import changed
from watchedrun.errors import Busy, NoHook, NoNumbers, NoPart, NoProgram, TooMany, Unsound
from watchedrun.moments import KINDS, Moment
from watchedrun.plain import walked
from watchedrun.states import begun
from watchedrun.watch import Watch

END = (("put", 0), ("back",))
NOTHING = ((), (), None)
PROGRAM = (
    ("main", ("n",), (("try", 5), ("get", "n"), ("call", "sub"), ("done",), ("back",), ("say",), *END)),
    ("sub", ("x",), (("get", "x"), ("if", 4), ("put", 7), ("throw",), ("get", "x"), ("back",))),
    ("quiet", ("k", "r", "w"), END),
    ("loud", ("k", "r", "w"), (("get", "r"), ("say",), ("call", "none"), ("back",))),
    ("none", (), END),
)
RING = (("main", (), (("put", 3), ("say",), ("go", 0))), ("quiet", ("k", "r", "w"), END))
UNSOUND = (("main", (), END), ("wrong", ("a", "b", "c"), (("add",),)))
QUIET = ("quiet", ("row",), None)
LOUD = ("loud", ("row",), ("main", 1, 1))
HOOKS = (QUIET, LOUD, ("quiet", KINDS, ("sub", 0, 59)), ("loud", ("back", "fault"), None))


class NoEar(Exception):
    pass


def ears_told(watch, **more):
    """A list to which each moment that the watch tells is added, as a text."""
    heard = []
    watch.listen(lambda moment: heard.append(str(moment)), **more)
    return heard


def everything(watch):
    return repr((watch.state(), watch.hooks(), watch.said(), watch.end()))


class WatchTest(unittest.TestCase):

    def test_where_nothing_is_begun(self):
        for watch in (Watch(PROGRAM), Watch(PROGRAM, hooks=()), Watch(PROGRAM, hooks=HOOKS)):
            heard = ears_told(watch, inner=True)
            self.assertEqual((watch.state(), watch.said(), watch.end()), (NOTHING, [], None))
            for most in (0, 1, 200, 3000):
                self.assertEqual(watch.run(most=most), 0)
            self.assertEqual(watch.run(), 0)
            self.assertEqual((watch.state(), watch.said(), watch.end(), heard), (NOTHING, [], None, []))
        self.assertEqual(Watch(PROGRAM).hooks(), ())
        self.assertEqual(Watch(PROGRAM, hooks=HOOKS).hooks(), HOOKS)

    def test_begin(self):
        watch = Watch(PROGRAM, hooks=HOOKS)
        self.assertIsNone(watch.begin("main", [4]))
        self.assertEqual(watch.state(), begun(PROGRAM, "main", (4,)))
        self.assertEqual((watch.said(), watch.end()), ([], None))
        self.assertIsNone(watch.begin("none"))
        self.assertEqual(watch.state(), begun(PROGRAM, "none"))

    def test_begin_in_the_place_of_what_was(self):
        watch = Watch(PROGRAM, hooks=HOOKS)
        for most in range(0, 60):
            watch.begin("main", (0,))
            watch.run(most=most)
            watch.begin("sub", (3,))
            self.assertEqual((watch.state(), watch.said(), watch.end()), (begun(PROGRAM, "sub", (3,)), [], None))

    def test_run(self):
        watch = Watch(PROGRAM)
        heard = ears_told(watch)
        watch.begin("main", (0,))
        self.assertEqual((watch.run(most=0), heard), (0, ["1 call main:0"]))
        self.assertEqual((watch.run(most=0), heard), (0, ["1 call main:0"]))
        self.assertEqual((watch.run(most=3), heard[1:]), (3, ["1 row main:0", "1 row main:1", "1 row main:2",
                                                              "2 call sub:0"]))
        self.assertEqual((watch.run(most=4), heard[5:]), (4, [
            "2 row sub:0", "2 row sub:1", "2 row sub:2", "2 row sub:3", "2 fault sub:3 = 7", "1 fault main:2 = 7",
            "1 caught main:2 = 7"]))
        self.assertEqual((watch.said(), watch.end()), ([], None))
        self.assertEqual((watch.run(most=1), watch.said()), (1, [7]))
        self.assertEqual((watch.run(most=50), watch.end()), (2, ("back", 0)))
        self.assertEqual("\n".join(heard), str(walked(PROGRAM, "main", (0,))))
        self.assertEqual((watch.run(), watch.run(most=0), watch.end()), (0, 0, ("back", 0)))
        self.assertEqual(watch.state(), ((), (7,), ("back", 0)))

    def test_run_counts_hooks_rows_too(self):
        for most in (0, 1, 2, 3, 5, 8, 200, 3000):
            watch = Watch(RING, hooks=(QUIET,))
            watch.begin("main")
            self.assertEqual(watch.run(most=most), most)
            # Two rows of the hook for each row that is due.
            self.assertEqual(len(watch.said()), most // 3 // 3 + (1 if most // 3 % 3 == 2 else 0))
        watch = Watch(RING)
        watch.begin("main")
        self.assertEqual(watch.run(), 200)

    def test_run_stops_where_a_row_is_due(self):
        watch = Watch(PROGRAM, hooks=HOOKS)
        watch.begin("main", (0,))
        done = 0
        while watch.end() is None:
            self.assertEqual(watch.run(most=0), 0)
            state = watch.state()
            if state[0]:
                self.assertEqual(state[0][-1][6][0], "row")
                behind = changed(PROGRAM, watch.hooks(), state)
                self.assertFalse(len(behind[0]) > len(state[0]) and behind[0][-1][5] is not None)
            done += watch.run(most=1)
        again = Watch(PROGRAM, hooks=HOOKS)
        again.begin("main", (0,))
        self.assertEqual(again.run(most=3000), done)
        self.assertEqual(again.state(), watch.state())

    def test_against_a_second_writing(self):
        source = random.Random(50)
        for _ in range(120):
            program, hooks = random_program(source), random_hooks(source)
            known = {part[0]: all_standings(program, part[0]) for part in program}
            most = source.randrange(120)
            machine = run_machine(program, hooks, "main", (4, 2), most, known)
            watch = Watch(program, hooks=hooks)
            plain, inner = [], []
            watch.listen(lambda moment: plain.append(moment))
            watch.listen(lambda moment: inner.append(moment), inner=True)
            watch.begin("main", (4, 2))
            self.assertEqual(watch.run(most=most), machine.rows)
            self.assertEqual(watch.state(), machine.state())
            self.assertEqual(inner, [Moment(*one[1:]) for one in machine.heard])
            self.assertEqual(plain, [Moment(*one[1:]) for one in machine.heard if not one[0]])

    def test_put(self):
        """A state put back goes on as it went on."""
        source = random.Random(51)
        for _ in range(40):
            program, hooks = random_program(source), random_hooks(source)
            watch = Watch(program, hooks=hooks)
            heard = ears_told(watch, inner=True)
            watch.begin("main", (4, 2))
            watch.run(most=source.randrange(40))
            state = watch.state()
            heard.clear()
            told = [watch.run(most=30), watch.state(), list(heard)]
            self.assertIsNone(watch.put(state))
            self.assertEqual((watch.state(), watch.said(), watch.end()), (state, list(state[1]), state[2]))
            heard.clear()
            self.assertEqual([watch.run(most=30), watch.state(), list(heard)], told)
            other = Watch(program, hooks=hooks)
            other.put(state)
            self.assertEqual([other.run(most=30), other.state()], told[:2])

    def test_put_of_each_state_of_a_run(self):
        state, states = begun(PROGRAM, "main", (0,)), []
        while state[0]:
            states.append(state)
            state = changed(PROGRAM, HOOKS, state)
        watch = Watch(PROGRAM, hooks=HOOKS)
        for kept in states + [state, NOTHING]:
            watch.put(kept)
            self.assertEqual(watch.state(), kept)
            watch.run(most=3000)
            self.assertEqual(watch.state(), NOTHING if kept == NOTHING else state)

    def test_told_lists_are_new(self):
        watch = Watch(PROGRAM)
        watch.begin("main", (0,))
        watch.run()
        for _ in range(2):
            said = watch.said()
            self.assertEqual(said, [7])
            said.append(8)
            said[0] = 5
        self.assertEqual(watch.state(), ((), (7,), ("back", 0)))
        numbers = [3]
        watch.begin("sub", numbers)
        numbers[0] = 4
        watch.run()
        self.assertEqual((watch.end(), numbers), (("back", 3), [4]))

    def test_two_watches_know_nothing_of_one_another(self):
        one, other = Watch(PROGRAM, hooks=(QUIET,)), Watch(PROGRAM, hooks=(QUIET,))
        heard = ears_told(other)
        one.begin("main", (0,))
        one.run()
        one.hook(LOUD)
        self.assertEqual((other.state(), other.hooks(), heard), (NOTHING, (QUIET,), []))
        self.assertEqual(other.listen(lambda moment: None), 1)
        self.assertEqual(one.listen(lambda moment: None), 0)

    def test_an_ear_may_run_another_watch(self):
        other = Watch(PROGRAM)
        watch = Watch(PROGRAM)

        def ear(moment):
            other.begin("sub", (5,))
            other.run()
        watch.listen(ear)
        watch.begin("main", (0,))
        watch.run()
        self.assertEqual((watch.end(), other.end()), (("back", 0), ("back", 5)))


class HooksTest(unittest.TestCase):

    def test_told_and_taken_off(self):
        watch = Watch(PROGRAM)
        for number, hook in enumerate(HOOKS):
            self.assertEqual(watch.hook(hook), number)
            self.assertEqual(watch.hooks(), HOOKS[:number + 1])
        with self.assertRaises(TooMany):
            watch.hook(QUIET)
        self.assertIsNone(watch.unhook(1))
        self.assertEqual(watch.hooks(), (HOOKS[0], *HOOKS[2:]))
        self.assertEqual(watch.hook(QUIET), 3)
        self.assertEqual(watch.hooks(), (HOOKS[0], HOOKS[2], HOOKS[3], QUIET))
        watch.unhook(3)
        watch.unhook(0)
        self.assertEqual(watch.hooks(), (HOOKS[2], HOOKS[3]))
        watch.unhook(0)
        watch.unhook(0)
        self.assertEqual(watch.hooks(), ())

    def test_the_same_hook_twice(self):
        watch = Watch(PROGRAM, hooks=(QUIET, QUIET))
        self.assertEqual(watch.hook(QUIET), 2)
        watch.begin("none")
        # A frame of hook 0 does 2 rows, of hook 1 those and 2 times 2, of hook 2 twice 1 and 2 and 6.
        self.assertEqual(watch.run(), 2 * (1 + 2 + 6 + 18))

    def nexts(self, watch):
        return [None if frame[6] is None else frame[6][2] for frame in watch.state()[0]]

    def test_each_moments_next(self):
        """Those above the number of a hook that is taken off are lesser by one."""
        hooks = (QUIET, ("quiet", ("row",), ("none", 0, 59)), QUIET, QUIET)
        for hooked, due in ((hooks[:1], 1), (hooks[:2], 1), (hooks[:3], 3), (hooks, 4)):
            for number in range(len(hooked)):
                watch = Watch(PROGRAM, hooks=hooked)
                watch.begin("sub", (3,))
                # To where all hooks were asked and the row is due.
                while True:
                    watch.run(most=0)
                    if len(watch.state()[0]) == 1:
                        break
                    watch.run(most=1)
                self.assertEqual(self.nexts(watch), [due])
                watch.unhook(number)
                self.assertEqual(self.nexts(watch), [due - 1 if due > number else due])
                self.assertEqual(watch.hooks(), hooked[:number] + hooked[number + 1:])

    def test_next_at_the_number_stays(self):
        state = ((begun(PROGRAM, "main", (0,))[0][0][:6] + (("call", None, 2),),), (), None)
        for number, due in ((0, 1), (1, 1), (2, 2), (3, 2)):
            watch = Watch(PROGRAM, hooks=HOOKS)
            watch.put(state)
            watch.unhook(number)
            self.assertEqual(watch.state(), ((state[0][0][:6] + (("call", None, due),),), (), None))

    def test_frames_that_wait_have_no_next(self):
        watch = Watch(PROGRAM, hooks=(("quiet", ("row",), ("sub", 0, 0)),))
        watch.begin("main", (3,))
        while len(watch.state()[0]) != 2 or self.nexts(watch) != [None, 1]:
            watch.run(most=1)
        frames = watch.state()[0]
        watch.unhook(0)
        self.assertEqual(watch.state(), ((frames[0], frames[1][:6] + (("row", None, 0),)), (), None))

    def test_a_hook_that_is_told_is_asked_from_then_on(self):
        watch = Watch(PROGRAM)
        watch.begin("main", (3,))
        watch.run(most=2)
        watch.hook(("loud", ("row",), None))
        watch.run()
        self.assertEqual(watch.said(), [2, 0, 1, 4, 5, 3, 4])
        watch.unhook(0)
        watch.begin("main", (3,))
        watch.run()
        self.assertEqual(watch.said(), [])

    def test_busy_while_a_frame_of_a_hook_stands(self):
        state = begun(PROGRAM, "main", (0,))
        while state[0]:
            watch = Watch(PROGRAM, hooks=HOOKS[:3])
            watch.put(state)
            if all(frame[5] is None for frame in state[0]):
                self.assertEqual(watch.hook(QUIET), 3)
                watch.unhook(3)
            else:
                for thing in (QUIET, None, 0, "x", [QUIET], True):
                    with self.assertRaises(Busy):
                        watch.hook(thing)
                    with self.assertRaises(Busy):
                        watch.unhook(thing)
                self.assertEqual(watch.deafen(watch.listen(lambda moment: None)), True)
            self.assertEqual((watch.state(), watch.hooks()), (state, HOOKS[:3]))
            state = changed(PROGRAM, HOOKS[:3], state)
        watch.put(state)
        self.assertEqual(watch.hook(QUIET), 3)

    def test_begin_and_put_while_a_frame_of_a_hook_stands(self):
        watch = Watch(PROGRAM, hooks=HOOKS)
        watch.begin("main", (0,))
        watch.run(most=1)
        self.assertIsNotNone(watch.state()[0][-1][5])
        watch.begin("main", (0,))
        watch.run(most=1)
        watch.put(NOTHING)
        watch.unhook(0)

    def test_refusals_of_hooks(self):
        for hooked in ((), HOOKS[:2], HOOKS):
            watch = Watch(PROGRAM, hooks=hooked)
            watch.begin("main", (0,))
            kept = everything(watch)
            for thing in any_things() + [very_deep(), list(QUIET), QUIET[:2], ("main", ("row",), None),
                                         ("quiet", (), None), [QUIET], (QUIET,),
                                         ("quiet", ("row",), ("main", True, 1)), ("quiet", ("row", "row"), None),
                                         ("quiet", ["row"], None)]:
                with self.assertRaises(NoHook):
                    watch.hook(thing)
                if type(thing) is int and 0 <= thing < len(hooked):
                    continue
                with self.assertRaises(NoHook):
                    watch.unhook(thing)
            for thing in (-1, len(hooked), True, False, None, "0", (0,), [0], 10 ** 39):
                with self.assertRaises(NoHook):
                    watch.unhook(thing)
            if hooked == HOOKS:
                with self.assertRaises(TooMany):
                    watch.hook(QUIET)
            self.assertEqual(everything(watch), kept)


class RefusalTest(unittest.TestCase):

    def test_of_a_new_watch(self):
        for thing in any_things() + [very_deep(), list(PROGRAM), PROGRAM[:0]]:
            for hooks in ((), thing, (QUIET,)):
                with self.assertRaises(NoProgram):
                    Watch(thing, hooks=hooks)
            with self.assertRaises(Unsound) as caught:
                Watch(UNSOUND, hooks=thing)
            self.assertEqual((caught.exception.part, caught.exception.paper), ("wrong", ("lacks", "wrong", [0])))
            if thing == ():
                continue
            with self.assertRaises(NoHook):
                Watch(PROGRAM, hooks=thing)
        for hooks in ([], [QUIET], list(HOOKS), HOOKS + (QUIET,), (QUIET, None), (QUIET, list(QUIET)), QUIET,
                      (("main", ("row",), None),), None):
            with self.assertRaises(NoHook):
                Watch(PROGRAM, hooks=hooks)

    def test_of_begin(self):
        watch = Watch(PROGRAM, hooks=HOOKS)
        watch.begin("main", (0,))
        watch.run(most=5)
        kept = everything(watch)
        for thing in any_things():
            for numbers in ((0,), thing):
                with self.assertRaises(NoPart) as caught:
                    watch.begin(thing, numbers)
                self.assertEqual(repr(caught.exception.name), repr(thing))
            if repr(thing) in ("[0]", "(0,)"):
                continue
            with self.assertRaises(NoNumbers) as caught:
                watch.begin("main", thing)
            self.assertEqual(caught.exception.many, 1)
        with self.assertRaises(NoPart):
            watch.begin(very_deep(), very_deep())
        with self.assertRaises(NoNumbers):
            watch.begin("main", very_deep())
        with self.assertRaises(NoNumbers) as caught:
            watch.begin("none", (1,))
        self.assertEqual(caught.exception.many, 0)
        self.assertEqual(everything(watch), kept)

    def test_nothing_that_is_handed_in_is_changed(self):
        program, hooks = copy.deepcopy((PROGRAM, HOOKS))
        watch = Watch(program, hooks=hooks)
        watch.begin("main", (0,))
        watch.run()
        self.assertEqual((program, hooks), (PROGRAM, HOOKS))


class EarTest(unittest.TestCase):

    def test_by_kinds(self):
        whole = walked(PROGRAM, "main", (0,)).moments()
        for kinds in [(kind,) for kind in KINDS] + [("row", "back"), KINDS, ("caught", "call"), ()]:
            watch = Watch(PROGRAM)
            heard = ears_told(watch, kinds=kinds)
            watch.begin("main", (0,))
            watch.run()
            self.assertEqual(heard, [str(one) for one in whole if one.kind in kinds])

    def test_kinds_changed_later(self):
        watch, kinds = Watch(PROGRAM), ["row"]
        heard = ears_told(watch, kinds=kinds)
        kinds[0] = "call"
        watch.begin("none")
        watch.run()
        self.assertEqual(heard, ["1 row none:0", "1 row none:1"])

    def test_inner(self):
        watch = Watch(PROGRAM, hooks=(("loud", ("row",), ("none", 0, 0)),))
        plain, inner, rows = ears_told(watch), ears_told(watch, inner=True), ears_told(watch, inner=True,
                                                                                       kinds=("row",))
        watch.begin("none")
        watch.run()
        self.assertEqual(plain, ["1 call none:0", "1 row none:0", "1 row none:1", "1 back none:1 = 0"])
        self.assertEqual(inner, [
            "1 call none:0", "1 call loud:0", "1 row loud:0", "1 row loud:1", "1 row loud:2", "2 call none:0",
            "2 row none:0", "2 row none:1",
            "2 back none:1 = 0", "1 row loud:3", "1 back loud:3 = 0", "1 row none:0", "1 row none:1",
            "1 back none:1 = 0"])
        self.assertEqual(rows, [one for one in inner if " row " in one])

    def test_in_their_order(self):
        watch, heard = Watch(PROGRAM), []
        for name in "abc":
            watch.listen(lambda moment, name=name: heard.append((name, str(moment))))
        watch.deafen(1)
        watch.listen(lambda moment: heard.append(("d", str(moment))), kinds=("row",))
        watch.begin("none")
        watch.run()
        self.assertEqual([name for name, _ in heard], ["a", "c", "a", "c", "d", "a", "c", "d", "a", "c"])

    def test_the_row_and_worth_with_which_the_change_was_done(self):
        """Behind lead the row led to, behind turn the worth turned to."""
        program = (("main", ("n",), (("get", "n"), ("if", 4), ("put", 2), ("back",), ("put", 3), ("back",))),
                   ("lead", ("k", "r", "w"), (("put", 4), ("lead",), *END)), ("turn", ("k", "r", "w"), (("put", 9),
                                                                                                        ("turn",),
                                                                                                        *END)))
        watch = Watch(program, hooks=(("lead", ("row",), ("main", 2, 2)), ("turn", ("back",), ("main", 0, 59))))
        heard = ears_told(watch)
        watch.begin("main", (0,))
        watch.run()
        self.assertEqual(heard, ["1 call main:0", "1 row main:0", "1 row main:1", "1 row main:4", "1 row main:5",
                                 "1 back main:5 = 9"])
        self.assertEqual(watch.end(), ("back", 9))
        throwing = (("main", (), (("try", 3), ("put", 2), ("throw",), ("back",))), program[2])
        for kind, told in (("fault", ["1 fault main:2 = 9", "1 caught main:2 = 9"]),
                           ("caught", ["1 fault main:2 = 2", "1 caught main:2 = 9"])):
            watch = Watch(throwing, hooks=(("turn", (kind,), ("main", 0, 59)),))
            heard = ears_told(watch, kinds=("fault", "caught"))
            watch.begin("main")
            watch.run()
            self.assertEqual((heard, watch.end()), (told, ("back", 9)))

    def test_a_moment_that_a_fault_of_a_hook_comes_in_the_place_of(self):
        program = (("main", (), END), ("throwing", ("k", "r", "w"), (("put", 5), ("throw",))))
        for kind, told in (
            ("call", ["1 fault main:0 = 5"]), ("row", ["1 call main:0", "1 fault main:0 = 5"]),
            ("back", ["1 call main:0", "1 row main:0", "1 row main:1", "1 fault main:1 = 5"]),
        ):
            watch = Watch(program, hooks=(("throwing", (kind,), ("main", 0, 59)),))
            heard = ears_told(watch)
            watch.begin("main")
            watch.run()
            self.assertEqual((heard, watch.end()), (told, ("fault", 5)))

    def test_a_moment_of_its_own_for_each_ear(self):
        watch, told = Watch(PROGRAM), []

        def spoil(moment):
            told.append(moment)
            moment.kind, moment.depth, moment.part, moment.row, moment.worth = "other", 9, "x", 8, 7
        watch.listen(spoil)
        heard = ears_told(watch)
        watch.listen(spoil)
        watch.begin("main", (0,))
        watch.run()
        self.assertEqual("\n".join(heard), str(walked(PROGRAM, "main", (0,))))
        self.assertEqual(len({id(one) for one in told}), 2 * len(heard))
        self.assertTrue(all(type(one) is Moment for one in told))

    def test_numbers_never_anew(self):
        watch = Watch(PROGRAM)
        quiet = lambda moment: None
        self.assertEqual([watch.listen(quiet) for _ in range(3)], [0, 1, 2])
        self.assertEqual([watch.deafen(True), watch.deafen(False)], [False, False])
        self.assertIs(watch.deafen(2), True)
        self.assertIs(watch.deafen(2), False)
        self.assertEqual(watch.listen(quiet), 3)
        self.assertEqual([watch.deafen(number) for number in (0, 1, 3)], [True] * 3)
        self.assertEqual(watch.listen(quiet), 4)
        for number in (0, 1, 2, 3, 5, -1, 10 ** 39):
            self.assertIs(watch.deafen(number), False)
        self.assertIs(watch.deafen(4), True)

    def test_the_same_ear_twice(self):
        watch, heard = Watch(PROGRAM), []
        ear = lambda moment: heard.append(str(moment))
        self.assertEqual((watch.listen(ear), watch.listen(ear)), (0, 1))
        watch.begin("none")
        watch.run()
        self.assertEqual(len(heard), 8)
        watch.deafen(0)
        watch.begin("none")
        watch.run()
        self.assertEqual(len(heard), 12)

    def test_busy_while_ears_are_told(self):
        watch = Watch(PROGRAM, hooks=HOOKS[:2])
        watch.listen(lambda moment: None)
        seen = []

        def ear(moment):
            for call in (
                lambda: watch.begin("main", (0,)), lambda: watch.begin(None, None), lambda: watch.begin([]),
                lambda: watch.run(),
                lambda: watch.run(most=0), lambda: watch.run(most=None), lambda: watch.put(NOTHING),
                lambda: watch.put(None),
                lambda: watch.hook(QUIET), lambda: watch.hook(None), lambda: watch.unhook(0), lambda: watch.unhook("x"),
                lambda: watch.listen(lambda moment: None), lambda: watch.listen(None, kinds=None, inner=None),
                lambda: watch.deafen(0),
                lambda: watch.deafen(9), lambda: watch.deafen(None),
            ):
                kept = everything(watch)
                with self.assertRaises(Busy):
                    call()
                self.assertEqual(everything(watch), kept)
            seen.append(moment)
        watch.listen(ear, inner=True)
        watch.begin("main", (0,))
        watch.run()
        self.assertEqual(watch.end(), ("back", 0))
        self.assertGreater(len(seen), 20)
        self.assertEqual(watch.listen(lambda moment: None), 2)

    def test_what_is_asked_while_ears_are_told(self):
        state, states, told = begun(PROGRAM, "main", (0,)), [], []
        while state[0]:
            behind = changed(PROGRAM, HOOKS, state)
            if len(behind[0]) <= len(state[0]) or behind[0][-1][5] is None:
                states.append((behind, list(behind[1]), behind[2], HOOKS))
            state = behind
        watch = Watch(PROGRAM, hooks=HOOKS)
        for _ in range(2):
            watch.listen(lambda moment: told.append((watch.state(), watch.said(), watch.end(), watch.hooks())),
                         inner=True)
        watch.begin("main", (0,))
        watch.run(most=3000)
        self.assertEqual(told[::2], states)
        self.assertEqual(told[1::2], states)

    def test_an_ear_that_raises(self):
        whole = str(walked(PROGRAM, "main", (0,))).split("\n")
        for at in range(len(whole)):
            watch, heard, left = Watch(PROGRAM), [], []

            def ear(moment):
                heard.append(str(moment))
                if len(heard) == at + 1:
                    raise NoEar(at)
            watch.listen(ear)
            watch.listen(lambda moment: left.append(str(moment)))
            watch.begin("main", (0,))
            with self.assertRaises(NoEar):
                watch.run()
            self.assertEqual((heard, left), (whole[:at + 1], whole[:at]))
            twin = Watch(PROGRAM)
            twin.put(watch.state())
            self.assertEqual((twin.said(), twin.end()), (watch.said(), watch.end()))
            watch.run()
            self.assertEqual((heard, left), (whole, whole[:at] + whole[at + 1:]))
            self.assertEqual((watch.end(), watch.said()), (("back", 0), [7]))

    def test_what_an_ear_raises_goes_through_as_it_is(self):
        for error in (NoEar("x"), KeyError(3), Busy("mine"), ValueError(), KeyboardInterrupt()):
            watch = Watch(PROGRAM)

            def ear(moment):
                raise error
            number = watch.listen(ear)
            watch.begin("main", (0,))
            with self.assertRaises(type(error)) as caught:
                watch.run()
            self.assertIs(caught.exception, error)
            self.assertEqual(watch.state()[0][-1][6], ("row", None, 0))
            self.assertEqual((watch.deafen(number), watch.hook(QUIET), watch.listen(ear)), (True, 0, 1))
            watch.unhook(0)
            watch.deafen(1)
            self.assertEqual(watch.run(), 10)
            watch.put(NOTHING)
            watch.begin("none")

    def test_refusals_within_an_ear_go_through(self):
        watch = Watch(PROGRAM)
        watch.listen(lambda moment: watch.run())
        watch.begin("main", (0,))
        with self.assertRaises(Busy):
            watch.run()
        self.assertIs(watch.deafen(0), True)
        self.assertEqual(watch.run(), 10)

    def test_what_an_ear_gives_back_is_nothing(self):
        watch = Watch(PROGRAM)
        watch.listen(lambda moment: False)
        heard = ears_told(watch)
        watch.begin("none")
        self.assertEqual((watch.run(), len(heard)), (2, 4))


if __name__ == "__main__":
    unittest.main()
