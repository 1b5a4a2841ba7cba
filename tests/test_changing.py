"""Changes of states: points 12 to 14 and 16 to 20."""

import copy
import random
import unittest

from tests.machine import Machine
from tests.reference import all_standings
from tests.samples import random_hooks, random_program
from watchedrun.changing import changed
from watchedrun.moments import KINDS
from watchedrun.standings import is_sound
from watchedrun.states import begun, is_hook

MOST = 10 ** 12
ROW = ("row", None, 0)
END = (("put", 0), ("back",))


def program_of(*rows, names=(), more=()):
    return (("main", names, tuple(rows)), *more)


def changes(program, hooks, state, many):
    for _ in range(many):
        state = changed(program, hooks, state)
    return state


def due(program, name="main", numbers=(), rows=0, hooks=()):
    """The state where so many rows are done, hooks' rows too, and one more is due."""
    state = begun(program, name, numbers)
    while True:
        behind = changed(program, hooks, state)
        if state[0][-1][6][0] == "row" and not new_hook(state, behind):
            if rows == 0:
                return state
            rows -= 1
        state = behind


def new_hook(state, behind):
    """Whether the change has begun a hook."""
    return len(behind[0]) > len(state[0]) and behind[0][-1][5] is not None


def told(state):
    """What a state is at, from the bottom: part, row, hook and moment of each frame."""
    return [(frame[0], frame[1], frame[5], frame[6]) for frame in state[0]]


class StateTest(unittest.TestCase):

    def check(self, state, due_state):
        self.assertEqual(repr(state), repr(due_state))

    def frame_behind(self, ahead, row, behind, names=(), said=(), set_names=None, at=None, guards=(), moment=ROW):
        """The row with the numbers ahead on the pile leaves those behind on it."""
        known = tuple(sorted(set_names if set_names is not None else names))
        prelude = tuple(("put", number) for number in ahead)
        program = program_of(*prelude, row, *END, ("go", 0), names=tuple(name for name, _ in names))
        self.assertTrue(is_sound(program), program)
        state = due(program, "main", [number for _, number in names], len(prelude))
        ahead_names = tuple(sorted(names))
        self.check(state, (((0, len(ahead), tuple(ahead), ahead_names, (), None, ROW),), (), None))
        if at is None:
            at = len(ahead) + 1
        state = changed(program, (), state)
        self.check(state, (((0, at, tuple(behind), known, guards, None, moment),), tuple(said), None))


class RowTest(StateTest):

    def test_put(self):
        for worth in (0, 1, -1, MOST, -MOST):
            self.frame_behind((), ("put", worth), (worth,))
            self.frame_behind((5, 6), ("put", worth), (5, 6, worth))

    def test_get(self):
        for worth in (0, 1, -7, MOST):
            self.frame_behind((), ("get", "b"), (worth,), names=(("b", worth),))
            self.frame_behind((4,), ("get", "b"), (4, worth), names=(("c", 3), ("b", worth), ("a", 2)))

    def test_get_of_a_name_that_is_not_set(self):
        self.frame_behind((4, 5), ("get", "z"), (4, 5), names=(("b", 1),), at=2, moment=("fault", -3, 0))
        self.frame_behind((), ("get", "a"), (), at=0, moment=("fault", -3, 0))

    def test_set(self):
        self.frame_behind((7,), ("set", "a"), (), set_names=(("a", 7),))
        self.frame_behind((4, 7), ("set", "a"), (4,), names=(("a", 1),), set_names=(("a", 7),))
        self.frame_behind((0,), ("set", "b"), (), names=(("c", 1), ("a", 2)), set_names=(("a", 2), ("b", 0), ("c", 1)))

    def test_ops(self):
        for op, one, other, worth in (
            ("add", 2, 3, 5), ("add", -2, -3, -5), ("less", 2, 3, -1), ("less", 3, 2, 1), ("times", -2, 3, -6),
            ("times", 4, 0, 0),
            ("over", 7, 2, 3), ("over", -7, 2, -4), ("over", 7, -2, -4), ("over", -7, -2, 3), ("over", 6, -2, -3),
            ("over", 0, -5, 0),
            ("same", 2, 2, 1), ("same", 2, 3, 0), ("below", 2, 3, 1), ("below", 3, 2, 0), ("below", 2, 2, 0),
            ("below", -3, -2, 1),
            ("add", MOST, 0, MOST), ("add", MOST - 1, 1, MOST), ("add", -MOST + 1, -1, -MOST),
            ("less", MOST - 1, -1, MOST),
            ("less", -MOST + 1, 1, -MOST), ("times", 10 ** 6, 10 ** 6, MOST), ("times", 10 ** 6, -10 ** 6, -MOST),
            ("over", MOST, 1, MOST), ("over", MOST, -1, -MOST), ("over", -MOST, -1, MOST), ("over", -1, MOST, -1),
            ("over", 1, MOST, 0),
        ):
            self.frame_behind((one, other), (op,), (worth,))
            self.frame_behind((8, 9, one, other), (op,), (8, 9, worth))

    def test_ops_with_faults(self):
        for op, one, other, number in (
            ("over", 1, 0, -1), ("over", 0, 0, -1), ("over", MOST, 0, -1), ("over", -MOST, 0, -1),
            ("add", MOST, 1, -2), ("add", 1, MOST, -2), ("add", -MOST, -1, -2), ("less", MOST, -1, -2),
            ("less", -MOST, 1, -2),
            ("times", 10 ** 6, 10 ** 6 + 1, -2), ("times", -10 ** 6 - 1, 10 ** 6, -2), ("times", MOST, MOST, -2),
            ("times", MOST, -2, -2),
        ):
            self.frame_behind((one, other), (op,), (one, other), at=2, moment=("fault", number, 0))
            self.frame_behind((8, one, other), (op,), (8, one, other), names=(("a", 3),), at=3,
                              moment=("fault", number, 0))

    def test_twin_swap_away_say(self):
        self.frame_behind((1, 2), ("twin",), (1, 2, 2))
        self.frame_behind((1,), ("twin",), (1, 1))
        self.frame_behind((1, 2), ("swap",), (2, 1))
        self.frame_behind((1, 2, 3), ("swap",), (1, 3, 2))
        self.frame_behind((1, 2), ("away",), (1,))
        self.frame_behind((1,), ("away",), ())
        self.frame_behind((1, 2), ("say",), (1,), said=(2,))

    def test_what_is_said_stands_behind_what_was_said(self):
        program = program_of(("put", 3), ("say",), ("put", 1), ("say",), ("put", 3), ("say",), *END)
        self.assertEqual(due(program, rows=6)[1], (3, 1, 3))

    def test_go_and_if(self):
        self.frame_behind((), ("go", 3), (), at=3)
        self.frame_behind((), ("go", 0), (), at=0)
        self.frame_behind((0,), ("if", 4), (), at=2)
        self.frame_behind((0,), ("if", 0), (), at=2)
        for number in (1, -1, 2, MOST, -MOST):
            self.frame_behind((number,), ("if", 4), (), at=4)
            self.frame_behind((number,), ("if", 0), (), at=0)
        self.frame_behind((7, 0), ("if", 1), (7,), at=3)
        self.frame_behind((7, 5), ("if", 1), (7,), at=1)

    def test_try_and_done(self):
        program = program_of(("put", 4), ("try", 8), ("put", 5), ("try", 10), ("done",), ("done",), ("put", 6),
                             ("back",),
                             ("away",), ("back",), ("back",))
        for rows, pile, guards in (
            (1, (4,), ()), (2, (4,), ((8, 1),)), (3, (4, 5), ((8, 1),)), (4, (4, 5), ((8, 1), (10, 2))),
            (5, (4, 5), ((8, 1),)), (6, (4, 5), ()), (7, (4, 5, 6), ()),
        ):
            self.check(due(program, rows=rows), (((0, rows, pile, (), guards, None, ROW),), (), None))

    def test_back_and_throw(self):
        for worth in (0, 5, -3, MOST):
            self.frame_behind((4, worth), ("back",), (4, worth), names=(("a", 1),), at=2, moment=("back", worth, 0))
            self.frame_behind((4, worth), ("throw",), (4, worth), names=(("a", 1),), at=2, moment=("fault", worth, 0))

    def test_where_no_frame_is_watched(self):
        for row in (("look", "a"), ("change", "a"), ("lead",), ("turn",)):
            self.frame_behind((4, 2), row, (4, 2), names=(("a", 1),), at=2, moment=("fault", -5, 0))
        self.frame_behind((), ("look", "a"), (), names=(("a", 1),), at=0, moment=("fault", -5, 0))

    def test_a_call_takes_its_numbers_in_their_order(self):
        called = (("none", (), END), ("one", ("z",), END), ("two", ("z", "a"), END), ("three", ("m", "z", "a"), END))
        for many, name in enumerate(("none", "one", "two", "three")):
            program = program_of(("put", 9), ("put", 1), ("put", 2), ("put", 3), ("call", name), ("back",), more=called)
            pile = (9, 1, 2, 3)
            state = due(program, rows=4)
            taken = pile[4 - many:]
            names = tuple(sorted(zip(program[many + 1][1], taken)))
            waits = (0, 4, pile[:4 - many], (), (), None, None)
            self.check(changed(program, (), state), (
                (waits, (many + 1, 0, (), names, (), None, ("call", None, 0))), (), None))
            self.check(due(program, rows=6), ((waits, (many + 1, 1, (0,), names, (), None, ROW)), (), None))
            self.check(due(program, rows=7), (((0, 5, pile[:4 - many] + (0,), (), (), None, ROW),), (), None))

    def test_what_a_call_gives_back_comes_on_the_pile(self):
        program = program_of(("put", 9), ("put", 5), ("call", "one"), ("back",),
                             more=(("one", ("a",), (("get", "a"), ("twin",), ("add",), ("back",))),))
        state = due(program, rows=6)
        self.check(state, (((0, 2, (9,), (), (), None, None), (1, 3, (10,), (("a", 5),), (), None, ROW)), (), None))
        state = changed(program, (), state)
        self.check(state[0][1], (1, 3, (10,), (("a", 5),), (), None, ("back", 10, 0)))
        state = changed(program, (), state)
        self.check(state, (((0, 3, (9, 10), (), (), None, ROW),), (), None))
        state = changes(program, (), state, 2)
        self.check(state, ((), (), ("back", 10)))

    def test_twelve_frames_and_the_thirteenth(self):
        program = program_of(("get", "n"), ("call", "main"), ("back",), names=("n",))
        state = due(program, "main", (7,), 23)
        self.assertEqual(len(state[0]), 12)
        behind = changed(program, (), state)
        self.check(behind, (state[0][:-1] + ((0, 1, (7,), (("n", 7),), (), None, ("fault", -4, 0)),), (), None))
        for left in range(11, 0, -1):
            behind = changed(program, (), behind)
            self.assertEqual(len(behind[0]), left)
            self.check(behind[0][-1], (0, 1, (), (("n", 7),), (), None, ("fault", -4, 0)))
        self.check(changed(program, (), behind), ((), (), ("fault", -4)))


class FaultTest(StateTest):

    def states_of(self, program, numbers=(), hooks=()):
        """The states from the first fault on, to the end or to the next row that is due."""
        state = begun(program, "main", numbers)
        while state[0][-1][6][0] != "fault":
            state = changed(program, hooks, state)
        states = [state]
        while state[0] and state[0][-1][6][0] != "row":
            state = changed(program, hooks, state)
            states.append(state)
        return states

    def test_each_fault_without_a_guard_and_under_one_and_two(self):
        for rows, number in (
            ((("put", 1), ("put", 0), ("over",)), -1), ((("put", MOST), ("twin",), ("add",)), -2),
            ((("get", "z"),), -3),
            ((("look", "z"),), -5), ((("put", 0), ("change", "z")), -5), ((("put", 0), ("lead",)), -5),
            ((("put", 0), ("turn",)), -5), ((("put", 44), ("throw",)), 44), ((("put", 0), ("throw",)), 0),
            ((("put", -4), ("throw",)), -4),
        ):
            program = program_of(("put", 8), *rows, *END)
            states = self.states_of(program)
            self.assertEqual(len(states), 2)
            self.assertEqual(states[0][0][-1][6], ("fault", number, 0))
            self.check(states[1], ((), (), ("fault", number)))
            self.under_guards(rows, number)

    def under_guards(self, rows, number):
        taker = 5 + len(rows)
        program = program_of(("put", 8), ("try", taker), ("put", 6), *rows, *END, ("back",))
        states = self.states_of(program)
        top = states[0][0][-1]
        self.assertEqual((top[1], top[4], top[6]), (2 + len(rows), ((taker, 1),), ("fault", number, 0)))
        self.check(states[1], ((top[:6] + (("caught", number, 0),),), (), None))
        self.check(states[2], (((0, taker, (8, number), (), (), None, ROW),), (), None))
        inner = taker + 2
        two = program_of(("put", 8), ("try", inner + 1), ("put", 7), ("try", inner), ("put", 6), *rows, *END,
                         ("throw",), ("back",))
        self.assertTrue(is_sound(two))
        states = self.states_of(two)
        self.check(states[-1], (((0, inner, (8, 7, number), (), ((inner + 1, 1),), None, ROW),), (), None))
        state = changes(two, (), states[-1], 1)
        self.check(state, (((0, inner, (8, 7, number), (), ((inner + 1, 1),), None, ("fault", number, 0)),), (), None))
        self.check(changes(two, (), state, 2), (((0, inner + 1, (8, number), (), (), None, ROW),), (), None))

    def test_out_of_a_part_that_was_called(self):
        called = (("one", ("a",), (("put", 3), ("put", 4), ("throw",))), ("two", (), (("put", 6), ("call", "one"),
                                                                                      ("back",))))
        program = program_of(("put", 8), ("try", 5), ("put", 7), ("call", "two"), ("back",), ("back",), more=called)
        states = self.states_of(program)
        bottom = (0, 3, (8, 7), (), ((5, 1),), None)
        self.check(states, [
            ((bottom + (None,), (2, 1, (), (), (), None, None), (1, 2, (3, 4), (("a", 6),), (), None, ("fault", 4,
                                                                                                       0))), (), None),
            ((bottom + (None,), (2, 1, (), (), (), None, ("fault", 4, 0))), (), None),
            ((bottom + (("fault", 4, 0),),), (), None),
            ((bottom + (("caught", 4, 0),),), (), None),
            (((0, 5, (8, 4), (), (), None, ROW),), (), None),
        ])

    def test_a_fault_behind_the_guard_is_not_taken_by_it(self):
        program = program_of(("try", 4), ("done",), ("put", 5), ("throw",), ("away",), ("put", 6), ("throw",))
        self.check(self.states_of(program)[-1], ((), (), ("fault", 5)))

    def test_a_fault_in_the_taker_is_not_taken_by_its_guard(self):
        program = program_of(("try", 3), ("put", 5), ("throw",), ("throw",))
        states = self.states_of(program)
        self.check(states[-1], (((0, 3, (5,), (), (), None, ROW),), (), None))
        self.check(changes(program, (), states[-1], 2), ((), (), ("fault", 5)))


WATCHED = (("put", 5), ("set", "a"), ("get", "a"), ("call", "sub"), ("back",))
SUB = ("sub", ("x",), (("get", "x"), ("back",)))
QUIET = ("quiet", ("kind", "row", "worth"), END)
LOUD = ("loud", ("kind", "row", "worth"), (("get", "kind"), ("say",), ("get", "row"), ("say",), ("get", "worth"),
                                           ("say",), *END))
PROGRAM = (("main", ("n",), WATCHED), SUB, QUIET, LOUD)


class HookTest(StateTest):

    def begins(self, program, hooks, state, number):
        """The change of the state begins the hook of that number."""
        top = state[0][-1]
        kind, worth, _ = top[6]
        place = [part[0] for part in program].index(hooks[number][0])
        numbers = (KINDS.index(kind), top[1], 0 if worth is None else worth)
        names = tuple(sorted(zip(program[place][1], numbers)))
        behind = changed(program, hooks, state)
        self.check(behind, (state[0][:-1] + (top[:6] + ((kind, worth, number + 1),),
                                             (place, 0, (), names, (), number, ("call", None, 0))), state[1], None))
        return behind

    def states(self):
        """A state for each kind, with the row of its top frame."""
        program = PROGRAM
        catching = (("main", ("n",), (("try", 3), ("put", -9), ("throw",), ("back",))), SUB, QUIET, LOUD)
        back = changed(program, (), due(program, "main", (1,), 5))
        fault = changed(catching, (), due(catching, "main", (1,), 2))
        return [(program, begun(program, "main", (1,))), (program, due(program, "main", (1,), 1)), (program, back),
                (catching, fault), (catching, changed(catching, (), fault))]

    def test_each_kind_with_no_hook_and_with_one(self):
        for kind, (program, state) in zip(KINDS, self.states()):
            self.assertEqual(state[0][-1][6][0], kind)
            plain = changed(program, (), state)
            self.assertLessEqual(len(plain[0]), 1 + len(state[0]))
            for name in ("quiet", "loud"):
                for kinds in ((kind,), KINDS, KINDS[::-1]):
                    self.begins(program, ((name, kinds, None),), state, 0)
            others = tuple(other for other in KINDS if other != kind)
            self.check(changed(program, (("quiet", others, None),), state), plain)

    def test_by_part_and_rows(self):
        for program, state in self.states():
            place, at = state[0][-1][:2]
            name = program[place][0]
            plain = changed(program, (), state)
            for first, last, fits in (
                (0, 59, True), (at, at, True), (0, at, True), (at, 59, True), (at + 1, 59, False),
                (0, max(at - 1, 0), at == 0),
                (max(at - 1, 0), at + 1, True), (59, 59, False),
            ):
                hooks = (("quiet", KINDS, (name, first, last)),)
                self.assertTrue(is_hook(program, hooks[0]))
                if fits:
                    self.begins(program, hooks, state, 0)
                else:
                    self.check(changed(program, hooks, state), plain)
            for other in ("main", "sub", "quiet", "loud"):
                if other != name:
                    self.check(changed(program, (("quiet", KINDS, (other, 0, 59)),), state), plain)

    def test_two_and_four_hooks_in_order(self):
        for program, state in self.states():
            kind = state[0][-1][6][0]
            others = tuple(other for other in KINDS if other != kind)
            yes, no = ("quiet", (kind,), None), ("loud", others, None)
            loud = ("loud", (kind,), None)
            for hooks, run in (
                ((yes, loud), (0, 1)), ((no, yes), (1,)), ((yes, no), (0,)), ((no, no), ()),
                ((yes, loud, yes, loud), (0, 1, 2, 3)),
                ((no, yes, no, loud), (1, 3)), ((no, no, no, yes), (3,)), ((no, no, no, no), ()),
            ):
                here = state
                for number in run:
                    here = self.begins(program, hooks, here, number)
                    while len(here[0]) > len(state[0]):
                        here = changed(program, hooks, here)
                    self.assertEqual(here[0][-1][6], state[0][-1][6][:2] + (number + 1,))
                behind = changed(program, hooks, here)
                self.check(behind[0], changed(program, (), state)[0])

    def test_hooks_from_next_on_alone(self):
        hooks = (("quiet", ("row",), None), ("loud", ("row",), None))
        frames, said, end = due(PROGRAM, "main", (1,), 1)
        top = frames[-1]
        self.begins(PROGRAM, hooks, (frames, said, end), 0)
        self.begins(PROGRAM, hooks, ((top[:6] + (("row", None, 1),),), said, end), 1)
        self.check(changed(PROGRAM, hooks, ((top[:6] + (("row", None, 2),),), said, end)),
                   changed(PROGRAM, (), (frames, said, end)))

    def test_a_hook_says_what_it_is_told(self):
        hooks = (("loud", ("call", "row", "back"), ("sub", 0, 59)),)
        state = begun(PROGRAM, "main", (1,))
        while state[0]:
            state = changed(PROGRAM, hooks, state)
        self.assertEqual(state, ((), (0, 0, 0, 1, 0, 0, 1, 1, 0, 2, 1, 5), ("back", 5)))

    def test_hooks_watched_by_hooks_of_lesser_numbers_alone(self):
        """By all hooks, at all moments: the top hook is asked of frames of lesser rank alone."""
        hooks = tuple(("quiet", KINDS, None) for _ in range(4))
        state = begun(PROGRAM, "main", (1,))
        seen = set()
        for _ in range(20000):
            if not state[0]:
                break
            numbers = [frame[5] for frame in state[0] if frame[5] is not None]
            self.assertEqual(numbers, sorted(set(numbers), reverse=True))
            seen.add(tuple(numbers))
            state = changed(PROGRAM, hooks, state)
        self.assertIn((3, 2, 1, 0), seen)
        self.assertEqual(len(seen), 16)

    def test_the_rank_of_a_part_that_a_hook_called(self):
        calling = ("calling", ("k", "r", "w"), (("put", 3), ("call", "sub"), ("back",)))
        program = (("main", (), END), SUB, calling)
        one, other = ("calling", ("row",), ("main", 0, 59)), ("calling", ("row", "call"), ("sub", 0, 59))
        state = begun(program, "main", ())
        hooks = (other, one)
        while len(state[0]) < 3:
            state = changed(program, hooks, state)
        self.assertEqual([frame[5] for frame in state[0]], [None, 1, None])
        self.begins(program, hooks, state, 0)
        hooks = (one, other)
        state = begun(program, "main", ())
        while len(state[0]) < 3:
            state = changed(program, hooks, state)
        self.assertEqual([frame[5] for frame in state[0]], [None, 0, None])
        self.check(told(changed(program, hooks, state))[-1], (1, 0, None, ROW))

    def test_back_of_a_hook(self):
        hooks = (("quiet", ("row",), None),)
        state = due(PROGRAM, "main", (1,), 1, hooks)
        self.assertEqual([frame[5] for frame in state[0]], [None, 0])
        state = changes(PROGRAM, hooks, state, 1)
        self.assertEqual(state[0][-1][6], ("back", 0, 0))
        bottom = state[0][0]
        self.check(changed(PROGRAM, hooks, state), ((bottom,), (), None))
        self.assertEqual(bottom[6], ("row", None, 1))

    def test_a_fault_of_a_hook_that_no_guard_of_its_own_takes(self):
        throwing = ("throwing", ("k", "r", "w"), (("put", 66), ("throw",)))
        guarded = (("put", 1), ("try", 4), ("put", 2), ("back",), ("back",))
        for rows, guards in ((WATCHED, 0), (guarded, 1)):
            program = (("main", ("n",), rows), SUB, throwing)
            hooks = (("throwing", ("row",), ("main", 2, 2)), ("throwing", ("call",), ("sub", 0, 0)))
            state = begun(program, "main", (1,))
            while len(state[0]) < 2:
                state = changed(program, hooks, state)
            watched = state[0][0]
            self.assertEqual(watched[6], ("row", None, 1))
            while len(state[0]) > 1:
                state = changed(program, hooks, state)
            self.check(state, ((watched[:6] + (("fault", 66, 0),),), (), None))
            state = changed(program, hooks, state)
            if guards:
                self.check(state, ((watched[:6] + (("caught", 66, 0),),), (), None))
                self.check(changed(program, hooks, state), (((0, 4, (1, 66), (("n", 1),), (), None, ROW),), (), None))
            else:
                self.check(state, ((), (), ("fault", 66)))

    def test_a_fault_of_a_hook_comes_in_the_place_of_any_moment(self):
        throwing = ("quiet", ("k", "r", "w"), (("put", 66), ("throw",)))
        for program, state in self.states():
            program = program[:2] + (throwing,) + program[3:]
            kind = state[0][-1][6][0]
            behind = changes(program, (("quiet", (kind,), None),), state, 5)
            self.check(behind, (state[0][:-1] + (state[0][-1][:6] + (("fault", 66, 0),),), state[1], None))

    def test_a_fault_of_a_hook_is_watched_in_the_frame_beneath(self):
        throwing = ("throwing", ("k", "r", "w"), (("put", 66), ("throw",)))
        program = (("main", ("n",), WATCHED), SUB, throwing, LOUD)
        hooks = (("loud", ("fault",), None), ("throwing", ("call",), ("main", 0, 0)))
        state = begun(program, "main", (1,))
        while state[0]:
            state = changed(program, hooks, state)
        # By the fault in the hook's frame, which hook 0 watches, and by that in the frame beneath.
        self.assertEqual(state, ((), (3, 1, 66, 3, 0, 66), ("fault", 66)))

    def test_a_guard_of_the_hook_takes_its_fault(self):
        program = (("main", (), END), ("taking", ("k", "r", "w"), (("try", 3), ("put", 66), ("throw",), ("say",),
                                                                   *END)))
        hooks = (("taking", ("row",), None),)
        state = begun(program, "main", ())
        while state[0]:
            state = changed(program, hooks, state)
        self.assertEqual(state, ((), (66, 66), ("back", 0)))

    def test_twelve_frames_of_a_level(self):
        """Frames of the level beneath don't count: each level has twelve of its own."""
        program = (("main", ("n",), (("get", "n"), ("call", "main"), ("back",))),
                   ("deep", ("k", "r", "w"), (("get", "k"), ("get", "r"), ("get", "w"), ("call", "deep"), ("back",))))
        hooks = (("deep", ("fault",), ("main", 0, 59)),)
        state = begun(program, "main", (5,))
        while len(state[0]) < 24:
            state = changed(program, hooks, state)
        self.assertEqual([frame[5] for frame in state[0]], [None] * 12 + [0] + [None] * 11)
        for _ in range(20):
            state = changed(program, hooks, state)
            if state[0][-1][6][0] == "fault":
                break
        self.assertEqual((len(state[0]), state[0][-1][1:3], state[0][-1][6]), (24, (3, (3, 1, -4)), ("fault", -4, 0)))


class WatchingTest(StateTest):

    def end_of(self, main, watching, hooks, more=(), numbers=()):
        """What is said and the end of a run that a part of these rows watches."""
        names = ("n", "m")[:len(numbers)]
        program = (("main", names, tuple(main)), ("hooking", ("k", "r", "w"), tuple(watching)), *more)
        self.assertTrue(is_sound(program), program)
        for hook in hooks:
            self.assertTrue(is_hook(program, hook))
        state = begun(program, "main", numbers)
        for _ in range(2000):
            if not state[0]:
                return state[1:]
            state = changed(program, hooks, state)
        self.fail("this run has no end")

    def at(self, first, last=None, kinds=("row",), part="main"):
        return (("hooking", kinds, (part, first, first if last is None else last)),)

    def test_look(self):
        for number in (0, 7, -MOST):
            told = self.end_of((("get", "n"), ("back",)), (("look", "n"), ("say",), *END), self.at(0),
                               numbers=(number,))
            self.assertEqual(told, ((number,), ("back", number)))

    def test_look_of_a_name_that_is_not_set(self):
        taking = (("try", 5), ("look", "k"), ("say",), ("done",), ("go", 6), ("say",), *END)
        self.assertEqual(self.end_of(END, taking, self.at(0)), ((-3,), ("back", 0)))
        self.assertEqual(self.end_of(END, (("look", "k"), ("back",)), self.at(0)), ((), ("fault", -3)))

    def test_change(self):
        rows = (("get", "n"), ("get", "z"), ("add",), ("back",))
        watching = (("put", 40), ("change", "n"), ("put", 2), ("change", "z"), ("get", "r"), ("back",))
        self.assertEqual(self.end_of(rows, watching, self.at(0), numbers=(5,)), ((), ("back", 42)))
        self.assertEqual(self.end_of(rows, watching, self.at(1), numbers=(5,)), ((), ("back", 7)))
        self.assertEqual(self.end_of(rows, watching, self.at(2), numbers=(5,)), ((), ("fault", -3)))

    def test_change_keeps_the_names_sorted_and_the_rest_as_it_is(self):
        watching = (("put", 9), ("change", "b"), ("put", 8), ("change", "z"), ("put", 7), ("change", "n"), *END)
        program = (("main", ("n",), (("put", 3), ("try", 4), *END, ("back",))), ("hooking", ("k", "r", "w"), watching))
        hooks = (("hooking", ("row",), ("main", 2, 2)),)
        state = due(program, "main", (1,), 2, hooks)
        self.check(state[0][0], (0, 2, (3,), (("n", 1),), ((4, 1),), None, ("row", None, 1)))
        while len(state[0]) > 1:
            state = changed(program, hooks, state)
        self.check(state[0][0], (0, 2, (3,), (("b", 9), ("n", 7), ("z", 8)), ((4, 1),), None, ("row", None, 1)))

    def test_change_takes_its_number(self):
        program = (("main", (), END), ("hooking", ("k", "r", "w"), (("put", 1), ("put", 9), ("change", "b"),
                                                                    ("back",))))
        hooks = (("hooking", ("row",), ("main", 0, 0)),)
        state = due(program, "main", (), 3, hooks)
        self.check(state[0][1], (1, 3, (1,), (("k", 1), ("r", 0), ("w", 0)), (), 0, ROW))
        self.check(state[0][0], (0, 0, (), (("b", 9),), (), None, ("row", None, 1)))

    def test_lead_to_rows_that_agree(self):
        main = (("put", 1), ("back",), ("put", 2), ("back",), ("put", 3), ("throw",))
        # Rows 2 to 5 are never met here, so they agree with none.
        for row in range(-1, 7):
            told = self.end_of(main, (("put", row), ("lead",), *END), self.at(0))
            self.assertEqual(told, ((), ("back", 1) if row == 0 else ("fault", -6)), row)
        main = (("get", "n"), ("if", 4), ("put", 2), ("back",), ("put", 3), ("throw",))
        for at, row, end in (
            (0, 0, ("back", 2)), (0, 1, -6), (0, 2, ("back", 2)), (0, 3, -6), (0, 4, ("fault", 3)), (0, 5, -6),
            (0, 6, -6),
            (0, -1, -6), (0, 59, -6), (0, MOST, -6), (0, -MOST, -6), (3, 5, ("fault", 2)), (3, 3, ("back", 2)),
            (3, 0, -6),
            (2, 4, ("fault", 3)), (2, 2, ("back", 2)), (2, 3, -6), (1, 0, -6), (1, 1, ("back", 2)), (1, 3, ("back", 0)),
        ):
            told = self.end_of(main, (("put", row), ("lead",), *END), self.at(at), numbers=(0,))
            self.assertEqual(told, ((), ("fault", -6) if end == -6 else end), (at, row))

    def test_lead_back_rings(self):
        """A row that is due again is watched again: the hook leads back as long as the name tells it to."""
        main = (("get", "n"), ("say",), ("put", 0), ("back",))
        watching = (("look", "n"), ("if", 4), *END, ("look", "n"), ("put", 1), ("less",), ("change", "n"), ("put", 0),
                    ("lead",), *END)
        self.assertEqual(self.end_of(main, watching, self.at(2), numbers=(3,)), ((3, 2, 1, 0), ("back", 0)))

    def test_lead_asks_guards_and_heights(self):
        main = (("put", 1), ("try", 8), ("put", 2), ("done",), ("away",), ("put", 5), ("away",), ("back",), ("away",),
                ("back",))
        for at, row, agrees in (
            (3, 3, True), (3, 2, False), (4, 3, False), (4, 6, True), (4, 8, True), (5, 1, True), (2, 5, False),
            (5, 7, True), (5, 9, True),
            (6, 8, True), (3, 4, False), (3, 6, False), (3, 8, False), (2, 1, False), (2, 7, False),
        ):
            program = (("main", (), main), ("hooking", ("k", "r", "w"), (("put", row), ("lead",), *END)))
            hooks = self.at(at)
            state = begun(program, "main", ())
            while len(state[0]) < 2:
                state = changed(program, hooks, state)
            bottom = state[0][0]
            state = changes(program, hooks, state, 3)
            self.check(state[0][0], bottom[:1] + ((row if agrees else at),) + bottom[2:])
            self.assertEqual(state[0][1][6], ROW if agrees else ("fault", -6, 0), (at, row))

    def test_lead_at_other_kinds_is_refused(self):
        main = (("try", 5), ("put", 2), ("throw",), ("put", 0), ("back",), ("away",), ("put", 0), ("call", "sub"),
                ("back",))
        for kind in ("call", "fault", "caught", "back"):
            taking = (("try", 6), ("get", "r"), ("lead",), ("done",), ("put", 0), ("back",), ("say",), *END)
            told = self.end_of(main, taking, self.at(0, 59, (kind,)), more=(SUB,))
            self.assertEqual(told, ((-6,), ("back", 0)), kind)
        told = self.end_of(main, (("get", "r"), ("lead",), *END), self.at(0, 59), more=(SUB,))
        self.assertEqual(told, ((), ("back", 0)))

    def test_hooks_behind_are_asked_by_the_row_led_to(self):
        main = (("get", "n"), ("if", 4), ("put", 2), ("back",), ("put", 3), ("back",))
        saying = ("saying", ("k", "r", "w"), (("get", "r"), ("say",), *END))
        watching = (("put", 4), ("lead",), *END)
        lead = ("hooking", ("row",), ("main", 2, 2))
        for hooks, said in (
            ((lead, ("saying", ("row",), ("main", 4, 4))), (4,)), ((lead, ("saying", ("row",), ("main", 2, 2))), ()),
            ((("saying", ("row",), ("main", 2, 2)), lead), (2,)), ((("saying", ("row",), ("main", 4, 4)), lead), ()),
            ((lead, ("saying", ("row",), None)), (0, 1, 4, 5)),
        ):
            self.assertEqual(self.end_of(main, watching, hooks, more=(saying,), numbers=(0,)), (said, ("back", 3)))

    def test_turn(self):
        main = (("try", 3), ("put", 2), ("throw",), ("back",))
        for kind in ("back", "fault", "caught"):
            for number in (0, 7, -4, MOST, -MOST):
                told = self.end_of(main, (("put", number), ("turn",), *END), self.at(0, 59, (kind,)))
                self.assertEqual(told, ((), ("back", number)), kind)
        for kind in ("call", "row"):
            told = self.end_of(main, (("put", 7), ("turn",), *END), self.at(0, 0, (kind,)))
            self.assertEqual(told, ((), ("fault", -6)), kind)
        told = self.end_of((("put", 2), ("throw",)), (("put", 7), ("turn",), *END), self.at(0, 59, ("fault",)))
        self.assertEqual(told, ((), ("fault", 7)))

    def test_turn_within_the_moment(self):
        main = (("put", 9), ("put", 2), ("back",))
        program = (("main", (), main), ("hooking", ("k", "r", "w"), (("put", 1), ("put", 7), ("turn",), ("back",))))
        hooks = (("hooking", ("back",), ("main", 0, 59)), ("hooking", ("back",), ("main", 0, 59)))
        state = due(program, "main", (), 6, hooks)
        self.check(state, (((0, 2, (9, 2), (), (), None, ("back", 7, 1)),
                            (1, 3, (1,), (("k", 2), ("r", 2), ("w", 2)), (), 0, ROW)), (), None))
        state = due(program, "main", (), 7, hooks)
        self.check(state[0][1][3], (("k", 2), ("r", 2), ("w", 7)))

    def test_by_a_part_that_a_hook_called(self):
        """A part that a hook called watches what the hook watches."""
        looking = ("sub", (), (("look", "n"), ("say",), ("put", 8), ("change", "n"), ("put", 2), ("lead",), *END))
        main = (("get", "n"), ("if", 4), ("get", "n"), ("back",), ("put", 3), ("back",))
        told = self.end_of(main, (("call", "sub"), ("back",)), self.at(2), more=(looking,), numbers=(0,))
        self.assertEqual(told, ((0,), ("back", 8)))
        turning = ("sub", (), (("call", "deep"), ("back",)))
        deep = ("deep", (), (("put", 4), ("turn",), *END))
        told = self.end_of(main, (("call", "sub"), ("back",)), self.at(0, 59, ("back",)), more=(turning, deep),
                           numbers=(0,))
        self.assertEqual(told, ((), ("back", 4)))

    def test_a_part_called_by_none_of_a_hook_watches_nothing(self):
        looking = ("sub", (), (("look", "n"), ("back",)))
        self.assertEqual(self.end_of((("call", "sub"), ("back",)), END, self.at(0), more=(looking,), numbers=(3,)),
                         ((), ("fault", -5)))

    def test_a_hook_watches_the_frame_of_a_hook(self):
        """Hook 0 watches hook 1's frame: it sees that frame's names, and turns what it gives back."""
        main = (("put", 3), ("back",))
        upper = ("upper", ("k", "r", "w"), (("look", "r"), ("say",), ("put", 9), ("change", "w"), *END))
        lower = ("lower", ("k", "r", "w"), (("get", "w"), ("say",), *END))
        hooks = (("upper", ("row",), ("lower", 0, 0)), ("lower", ("row",), ("main", 1, 1)))
        self.assertEqual(self.end_of(main, END, hooks, more=(upper, lower)), ((1, 9), ("back", 3)))

    def test_a_fault_is_raised_behind_nothing_changed(self):
        for row, kind in ((("lead",), "call"), (("turn",), "row"), (("look", "z"), "row")):
            program = (("main", ("n",), END), ("hooking", ("k", "r", "w"), (("put", 3), ("put", 1), row, *END)))
            hooks = (("hooking", (kind,), ("main", 0, 0)),)
            state = due(program, "main", (1,), 2, hooks)
            behind = changed(program, hooks, state)
            top = state[0][1]
            self.assertEqual(top[2], (3, 1))
            number = -3 if row[0] == "look" else -6
            self.check(behind, ((state[0][0], top[:6] + (("fault", number, 0),)), (), None))


class RandomTest(StateTest):

    def test_against_a_second_writing(self):
        source = random.Random(20)
        for _ in range(250):
            program, hooks = random_program(source), random_hooks(source)
            elder = copy.deepcopy((program, hooks))
            known = {part[0]: all_standings(program, part[0]) for part in program}
            numbers = [source.randrange(-3, 9), source.randrange(-3, 9)]
            machine = Machine(program, hooks, "main", numbers, known)
            state = begun(program, "main", numbers)
            for _ in range(250):
                self.check(state, machine.state())
                if not state[0]:
                    break
                kept = repr(state)
                again = changed(program, hooks, state)
                self.check(changed(program, hooks, state), again)
                self.check(repr(state), kept)
                state = again
                machine.change()
            self.assertEqual((program, hooks), elder)

    def test_guards_and_heights_are_those_of_the_standings(self):
        source = random.Random(21)
        for _ in range(150):
            program, hooks = random_program(source), random_hooks(source)
            known = [all_standings(program, part[0]) for part in program]
            state = begun(program, "main", (2, 3))
            waited = {}
            for _ in range(250):
                for at, (place, row, pile, names, guards, hook, moment) in enumerate(state[0]):
                    height, due_guards = known[place][row]
                    self.assertEqual(guards, due_guards)
                    word = program[place][2][row]
                    taken = len([part for part in program if part[0] == word[-1]][0][1]) if word[0] == "call" else 0
                    if moment is None:
                        waited[at] = True
                    if moment is None or (moment[0] in ("fault", "caught") and waited.get(at)):
                        self.assertEqual(len(pile), height - taken)
                    else:
                        waited[at] = False
                        self.assertEqual(len(pile), height)
                for at in range(len(state[0]), 70):
                    waited[at] = False
                if not state[0]:
                    break
                state = changed(program, hooks, state)


if __name__ == "__main__":
    unittest.main()
