"""A watch: a program and its hooks, the state of a run, and the ears that hear its moments."""

from watchedrun.basics import is_index, is_whole
from watchedrun.changing import run_on
from watchedrun.errors import Busy, NoHook, TooMany
from watchedrun.frames import hook_of, moment_of
from watchedrun.moments import KINDS, Moment
from watchedrun.plain import MOST_ROWS
from watchedrun.programs import check_program
from watchedrun.standings import check_sound
from watchedrun.states import MOST_HOOKS, can_hook, check_hooks, first_state

NOTHING_BEGUN = ((), (), None)


class Watch:
    """A run that hooks watch and ears hear; each ear is kept as a tuple (number, ear, kinds, inner)."""

    def __init__(self, program, *, hooks=()):
        check_program(program)
        check_sound(program)
        check_hooks(program, hooks)
        self.program = program
        self.watchers = hooks
        self.now = NOTHING_BEGUN
        self.ears = []
        self.next_ear = 0
        self.telling = False

    def begin(self, part, numbers=()):
        """Begin a run of the part with these numbers, in the place of what was."""
        self.check_quiet()
        self.now = first_state(self.program, part, numbers)

    def run(self, *, most=MOST_ROWS):
        """Go on until the run has ended or so many rows are done: how many were done."""
        self.check_quiet()
        done, last = run_on(self.program, self.watchers, self.now, most,
                            lambda state, over, inner: self.take_change(state, over, inner))
        return done

    def put(self, state):
        """Put a state that was told of the program with these hooks."""
        self.check_quiet()
        self.now = state

    def state(self):
        """The state, as a tuple."""
        return self.now

    def hooks(self):
        """The hooks, as a tuple."""
        return self.watchers

    def said(self):
        """The list of what was said."""
        return list(self.now[1])

    def end(self):
        """("back", worth), ("fault", number), or None where no run has ended."""
        return self.now[2]

    def hook(self, hook):
        """Put a hook behind the others: its number."""
        self.check_quiet()
        self.check_unhooked()
        if not can_hook(self.program, hook):
            raise NoHook("this is no hook")
        if len(self.watchers) >= MOST_HOOKS:
            raise TooMany("there are four hooks")
        self.watchers = (*self.watchers, hook)
        return len(self.watchers) - 1

    def unhook(self, number):
        """Take off the hook of that number."""
        self.check_quiet()
        self.check_unhooked()
        if not is_index(number, len(self.watchers)):
            raise NoHook("there is no hook of that number")
        self.watchers = (*self.watchers[:number], *self.watchers[number + 1:])
        frames, said, end = self.now
        self.now = (tuple([without_hook(frame, number) for frame in frames]), said, end)

    def listen(self, ear, *, kinds=KINDS, inner=False):
        """Tell the ear the moments of these kinds from now on, also those of hooks where inner: its number."""
        self.check_quiet()
        number = self.next_ear
        self.ears.append((number, ear, tuple(kinds), inner))
        self.next_ear += 1
        return number

    def deafen(self, number):
        """Tell the ear of that number nothing more: whether there was such an ear."""
        self.check_quiet()
        if not is_whole(number) or number not in [kept[0] for kept in self.ears]:
            return False
        self.ears = [kept for kept in self.ears if kept[0] != number]
        return True

    def check_quiet(self):
        """Refuse what can't be done while ears are told."""
        if self.telling:
            raise Busy("ears are told")

    def check_unhooked(self):
        """Refuse what can't be done while a frame of a hook stands."""
        if any([hook_of(frame) is not None for frame in self.now[0]]):
            raise Busy("a frame of a hook stands")

    def take_change(self, state, over, inner):
        """Take the state behind a change, and tell the ears the moment that is over, None where none is."""
        self.now = state
        if over is None:
            return
        self.telling = True
        try:
            self.tell_ears(over, inner)
        finally:
            self.telling = False

    def tell_ears(self, over, inner):
        """Tell each ear a moment of its own, where it hears such ones."""
        kind, depth, part, row, worth = over
        hearing = list(self.ears)
        for number, ear, kinds, hears_inner in hearing:
            if kind in kinds and (hears_inner or not inner):
                ear(Moment(kind, depth, part, row, worth))


def without_hook(frame, number):
    """The frame without the hook of that number, so that the same hooks as before are still to be asked."""
    moment = moment_of(frame)
    if moment is None or moment[2] <= number:
        return frame
    kind, worth, asked = moment
    return (*frame[:6], (kind, worth, asked - 1))
