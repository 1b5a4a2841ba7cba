"""States and their changes, one by one and one behind another."""

from watchedrun.doing import row_done
from watchedrun.frames import at_moment, depth_of, gone_on, hook_of, is_inner, moment_of, rank_of, topped
from watchedrun.moments import KINDS
from watchedrun.programs import place_of
from watchedrun.states import new_frame


def changed(program, hooks, state):
    """The state to which one that has begun and not ended is changed."""
    frames, said, end = state
    number = hook_due(program, hooks, frames)
    if number is not None:
        return (hook_begun(program, hooks[number][0], number, frames), said, None)
    kind, worth, asked = moment_of(frames[-1])
    if kind == "call":
        return (topped(frames, at_moment(frames[-1], "row", None)), said, None)
    if kind == "row":
        frames, said = row_done(program, frames, said)
        return (frames, said, None)
    if kind == "back":
        return back_over(frames, said, worth)
    if kind == "fault":
        return fault_over(frames, said, worth)
    return (topped(frames, caught_over(frames[-1], worth)), said, None)


def hook_due(program, hooks, frames):
    """The number of the hook that is run next at the top frame's moment, or None."""
    kind, worth, asked = moment_of(frames[-1])
    for number in range(asked, rank_of(frames, len(hooks))):
        if fits(program, hooks[number], frames[-1], kind):
            return number
    return None


def fits(program, hook, frame, kind):
    """Whether the hook fits a moment of that kind of the frame."""
    name, kinds, where = hook
    if kind not in kinds:
        return False
    if where is None:
        return True
    part, first, last = where
    return program[frame[0]][0] == part and first <= frame[1] <= last


def hook_begun(program, part, number, frames):
    """The frames with one of the hook of that number, a part of that name, on top of the one that it watches."""
    watched = frames[-1]
    kind, worth, asked = moment_of(watched)
    told = (KINDS.index(kind), watched[1], 0 if worth is None else worth)
    waiting = (*watched[:6], (kind, worth, number + 1))
    return (*frames[:-1], waiting, new_frame(program, place_of(program, part), told, number))


def back_over(frames, said, worth):
    """The state behind a back with that worth."""
    left = frames[:-1]
    if not left:
        return ((), said, ("back", worth))
    if hook_of(frames[-1]) is not None:
        return (left, said, None)
    place, at, pile, names, guards, hook, moment = left[-1]
    return (topped(left, gone_on(left[-1], at + 1, (*pile, worth), names, guards)), said, None)


def fault_over(frames, said, number):
    """The state behind a fault of that number: it is about to be caught, or has come up in the frame beneath."""
    if frames[-1][4]:
        return (topped(frames, at_moment(frames[-1], "caught", number)), said, None)
    left = frames[:-1]
    if not left:
        return ((), said, ("fault", number))
    return (topped(left, at_moment(left[-1], "fault", number)), said, None)


def caught_over(frame, number):
    """The frame whose inner guard has taken the fault of that number."""
    place, at, pile, names, guards, hook, moment = frame
    row, height = guards[-1]
    return gone_on(frame, row, (*pile[:height], number), names, guards[:-1])


def over_next(program, hooks, state):
    """A tuple (kind, depth, part, row, worth) of the moment that the next change ends, None where it begins a hook."""
    frames = state[0]
    if hook_due(program, hooks, frames) is not None:
        return None
    place, at, pile, names, guards, hook, moment = frames[-1]
    return (moment[0], depth_of(frames), program[place][0], at, moment[1])


def run_on(program, hooks, state, most, heard):
    """Change the state until it has ended, or one more than so many rows would be done: (rows done, state).

    Behind each change heard is called: with the state, with the moment that is over, as over_next tells it,
    and with whether that is one of a hook's level.
    """
    done = 0
    while state[0]:
        over = over_next(program, hooks, state)
        inner = is_inner(state[0])
        if over is not None and over[0] == "row":
            if done >= most:
                return (done, state)
            done += 1
        state = changed(program, hooks, state)
        heard(state, over, inner)
    return (done, state)
