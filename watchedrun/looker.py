"""Whether a thing is a paper of a program that holds."""

from watchedrun.basics import is_index
from watchedrun.changing import changed
from watchedrun.programs import check_program, place_of, rows_of
from watchedrun.standings import BEGINNING, is_sound_part, lacks, leads
from watchedrun.states import are_hooks, are_numbers, first_state

MOST_STATES = 600


def holds(program, thing):
    """Whether the thing is a paper of the program that holds, all of it of just the kinds told."""
    check_program(program)
    if not isinstance(thing, tuple) or len(thing) < 2:
        return False
    word, part, *told = thing
    if part not in [name for name, names, rows in program]:
        return False
    if word == "run":
        return len(told) == 3 and is_run(program, part, told[0], told[1], told[2])
    if word in ("lacks", "falls"):
        return len(told) == 1 and ends_wrong(program, part, word, told[0])
    if len(told) != 2:
        return False
    one, other = told
    if word == "two":
        return ends_in_two_ways(program, part, one, other)
    if word == "sound":
        return shows_sound(program, part, one, other)
    if word == "unmet":
        return is_sound_part(program, part) and leaves_out(program, part, one, other)
    return word in ("agree", "apart") and is_sound_part(program, part) and compares(program, part, word, one, other)


def standing_by(program, part, thing):
    """The standing of a walk's last row by it, None where the thing is no walk of the part."""
    rows = rows_of(program, part)
    if not are_row_numbers(rows, thing) or thing[:1] != [0]:
        return None
    standing = BEGINNING
    for at, row in zip(thing, thing[1:]):
        standing = standing_led_to(program, rows, at, standing, row)
        if standing is None:
            return None
    return standing


def are_row_numbers(rows, thing):
    """Whether the thing is a list of numbers of these rows."""
    return isinstance(thing, list) and all([is_index(row, len(rows)) for row in thing])


def standing_led_to(program, rows, at, standing, row):
    """The standing with which the row numbered at leads to the other one, None where it doesn't."""
    if lacks(program, rows[at], standing):
        return None
    for led, behind in leads(program, rows, at, standing):
        if led == row:
            return behind
    return None


def ends_wrong(program, part, word, walk):
    """Whether the last row of the walk lacks, or leads to the row behind the last one, as the word tells."""
    standing = standing_by(program, part, walk)
    if standing is None:
        return False
    rows = rows_of(program, part)
    lacking = lacks(program, rows[walk[-1]], standing)
    if word == "lacks":
        return lacking
    return not lacking and len(rows) in [led for led, behind in leads(program, rows, walk[-1], standing)]


def ends_in_two_ways(program, part, walk, other):
    """Whether both walks end at one row with unlike standings."""
    standing = standing_by(program, part, walk)
    another = standing_by(program, part, other)
    if standing is None or another is None:
        return False
    return walk[-1] == other[-1] and standing != another


def compares(program, part, word, walk, other):
    """Whether both walks end with the same standing, or with unlike ones, as the word tells."""
    standing = standing_by(program, part, walk)
    another = standing_by(program, part, other)
    if standing is None or another is None:
        return False
    return (standing == another) == (word == "agree")


def shows_sound(program, part, known, walks):
    """Whether the standings and the walks show that the part is sound."""
    rows = rows_of(program, part)
    for thing in (known, walks):
        if not isinstance(thing, list) or len(thing) != len(rows):
            return False
    return all([is_shown(program, part, at, known, walks[at]) for at in range(len(rows))])


def is_shown(program, part, at, known, walk):
    """Whether the row numbered at is told as one that is never met, or its walk and what it leads to fit."""
    if known[at] is None:
        return at != 0 and walk is None
    standing = standing_by(program, part, walk)
    if standing is None or walk[-1] != at or not is_just(standing, known[at]):
        return False
    rows = rows_of(program, part)
    if lacks(program, rows[at], standing):
        return False
    onward = leads(program, rows, at, standing)
    return all([led < len(rows) and is_just(behind, known[led]) for led, behind in onward])


def leaves_out(program, part, row, met):
    """Whether met is a sorted list of rows that leads to none but these, has the first one and leaves the row out."""
    rows = rows_of(program, part)
    if not is_index(row, len(rows)) or not are_row_numbers(rows, met):
        return False
    if met != sorted(set(met)) or 0 not in met or row in met:
        return False
    # Whatever the standings are: that of the beginning is as good as any.
    onward = [led for at in met for led, behind in leads(program, rows, at, BEGINNING)]
    return all([led in met for led in onward if led < len(rows)])


def is_run(program, part, worths, hooks, states):
    """Whether these are the states of a run of the part with these worths, watched by the hooks."""
    if not all([is_sound_part(program, name) for name, names, rows in program]):
        return False
    many = len(program[place_of(program, part)][1])
    if not isinstance(worths, tuple) or not are_numbers(worths, many) or not are_hooks(program, hooks):
        return False
    if not isinstance(states, list) or not 1 <= len(states) <= MOST_STATES:
        return False
    due = first_state(program, part, worths)
    if not is_just(due, states[0]):
        return False
    for state in states[1:]:
        if not due[0]:
            return False
        due = changed(program, hooks, due)
        if not is_just(due, state):
            return False
    return True


def is_just(due, thing):
    """Whether the thing is what is due, which has no lists and no truths, down to the kinds of its numbers."""
    return thing == due and not has_truths(thing)


def has_truths(thing):
    """Whether a truth stands within tuples."""
    if isinstance(thing, tuple):
        return any([has_truths(inner) for inner in thing])
    return isinstance(thing, bool)
