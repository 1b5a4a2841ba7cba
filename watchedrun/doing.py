"""A row of the top frame is done: what that changes."""

from watchedrun.faults import MOST_BEGUN, NONE_WATCHED, NOT_LET, NOT_SET, TOO_DEEP, op_outcome
from watchedrun.frames import at_moment, depth_of, gone_on, topped, watched_place, with_name, worth_of_name
from watchedrun.programs import place_of
from watchedrun.standings import sound_rows
from watchedrun.states import new_frame
from watchedrun.trees import OPS

WATCHING_WORDS = ("look", "change", "lead", "turn")
TURNED_KINDS = ("back", "fault", "caught")


def row_done(program, frames, said):
    """A tuple (frames, said) behind the row at which the top frame is."""
    place, at, pile, names, guards, hook, moment = frames[-1]
    row = program[place][2][at]
    word = row[0]
    if word == "call":
        return (call_done(program, frames, place_of(program, row[1])), said)
    if word in WATCHING_WORDS:
        return (watching_done(program, frames, row), said)
    if word == "say":
        return (topped(frames, piled(frames[-1], pile[:-1])), (*said, pile[-1]))
    return (topped(frames, frame_behind(frames[-1], row)), said)


def piled(frame, pile):
    """The frame at its next row, with that pile."""
    return gone_on(frame, frame[1] + 1, pile, frame[3], frame[4])


def call_done(program, frames, called):
    """The frames behind a call of the part of that number."""
    if depth_of(frames) >= MOST_BEGUN:
        return topped(frames, at_moment(frames[-1], "fault", TOO_DEEP))
    place, at, pile, names, guards, hook, moment = frames[-1]
    # Not cut by -many: a part without names takes none of the numbers, not all of them.
    left = len(pile) - len(program[called][1])
    waiting = (place, at, pile[:left], names, guards, hook, None)
    return (*frames[:-1], waiting, new_frame(program, called, pile[left:], None))


def frame_behind(frame, row):
    """The frame behind a row that changes nothing but its own frame."""
    place, at, pile, names, guards, hook, moment = frame
    word = row[0]
    if word in ("back", "throw"):
        return at_moment(frame, "back" if word == "back" else "fault", pile[-1])
    if word in OPS:
        return op_behind(frame, word)
    if word == "get":
        return got_behind(frame, worth_of_name(names, row[1]))
    if word == "go":
        return gone_on(frame, row[1], pile, names, guards)
    if word == "if":
        return gone_on(frame, row[1] if pile[-1] != 0 else at + 1, pile[:-1], names, guards)
    if word == "set":
        return gone_on(frame, at + 1, pile[:-1], with_name(names, row[1], pile[-1]), guards)
    if word == "try":
        return gone_on(frame, at + 1, pile, names, (*guards, (row[1], len(pile))))
    if word == "done":
        return gone_on(frame, at + 1, pile, names, guards[:-1])
    if word == "put":
        return piled(frame, (*pile, row[1]))
    if word == "twin":
        return piled(frame, (*pile, pile[-1]))
    if word == "swap":
        return piled(frame, (*pile[:-2], pile[-1], pile[-2]))
    return piled(frame, pile[:-1])


def op_behind(frame, op):
    """The frame behind a row with an op."""
    pile = frame[2]
    fault, worth = op_outcome(op, pile[-2], pile[-1])
    if fault is not None:
        return at_moment(frame, "fault", fault)
    return piled(frame, (*pile[:-2], worth))


def got_behind(frame, worth):
    """The frame behind a row that puts the worth of a name, None where that isn't set."""
    if worth is None:
        return at_moment(frame, "fault", NOT_SET)
    return piled(frame, (*frame[2], worth))


def watching_done(program, frames, row):
    """The frames behind look, change, lead or turn."""
    top = frames[-1]
    at = watched_place(frames)
    if at is None:
        return topped(frames, at_moment(top, "fault", NONE_WATCHED))
    if row[0] == "look":
        return topped(frames, got_behind(top, worth_of_name(frames[at][3], row[1])))
    watched = changed_watched(program, frames[at], row, top[2][-1])
    if watched is None:
        return topped(frames, at_moment(top, "fault", NOT_LET))
    return (*frames[:at], watched, *frames[at + 1:-1], piled(top, top[2][:-1]))


def changed_watched(program, watched, row, number):
    """The watched frame behind change, lead or turn with that number, None where it is refused."""
    place, at, pile, names, guards, hook, moment = watched
    kind, worth, asked = moment
    if row[0] == "change":
        return (place, at, pile, with_name(names, row[1], number), guards, hook, moment)
    if row[0] == "lead":
        if kind != "row" or not are_alike(program, program[place][0], at, number):
            return None
        return (place, number, pile, names, guards, hook, moment)
    if kind not in TURNED_KINDS:
        return None
    return (place, at, pile, names, guards, hook, (kind, number, asked))


def are_alike(program, part, at, number):
    """Whether the number is that of a row of the part that agrees with the row numbered at, which is met."""
    met = sound_rows(program, part)
    return number in met and met[number] == met[at]
