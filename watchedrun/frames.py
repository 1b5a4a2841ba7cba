"""Frames on top of one another: their levels, what watches them and what they watch."""

ROW_DUE = ("row", None, 0)


def hook_of(frame):
    """The number of the hook whose frame it is, or None."""
    return frame[5]


def moment_of(frame):
    """What the frame is at, a tuple (kind, worth, next), or None where it waits for what it called."""
    return frame[6]


def at_moment(frame, kind, worth):
    """The frame as it is, but at that moment, of which no hook was asked yet."""
    return (*frame[:6], (kind, worth, 0))


def gone_on(frame, row, pile, names, guards):
    """The frame with all this, its row due."""
    return (frame[0], row, pile, names, guards, hook_of(frame), ROW_DUE)


def topped(frames, frame):
    """The frames with another one in the place of the top one."""
    return (*frames[:-1], frame)


def level_start(frames):
    """The place of the lowest frame of the top one's level."""
    at = len(frames) - 1
    while at > 0 and hook_of(frames[at]) is None:
        at -= 1
    return at


def depth_of(frames):
    """How many frames of the top one's level stand."""
    return len(frames) - level_start(frames)


def is_inner(frames):
    """Whether the top frame's level is a hook's."""
    return hook_of(frames[level_start(frames)]) is not None


def rank_of(frames, many):
    """The number below which the hooks watch the top frame, where there are so many hooks."""
    number = hook_of(frames[level_start(frames)])
    return many if number is None else number


def watched_place(frames):
    """The place of the frame that the top one watches, or None."""
    return level_start(frames) - 1 if is_inner(frames) else None


def with_name(names, name, worth):
    """The sorted names of a frame, with that name set to the worth."""
    known = {elder: number for elder, number in names}
    known[name] = worth
    return tuple(sorted(list(known.items())))


def worth_of_name(names, name):
    """The worth of the name among the names of a frame, None where it isn't set."""
    known = {elder: number for elder, number in names}
    return known.get(name)
