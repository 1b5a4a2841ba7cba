"""States and their frames as data: the state with which a run begins, and what a hook is."""

from watchedrun.basics import are_unlike, is_index, is_worth
from watchedrun.errors import NoHook, NoNumbers
from watchedrun.moments import KINDS
from watchedrun.programs import MOST_PART_ROWS, check_program, place_of
from watchedrun.standings import check_sound

# A hook is told the kind, the row and the worth of the moment at which it is run.
HOOK_NAMES = 3
MOST_HOOKS = 4


def begun(program, part, numbers=()):
    """The state with which a run of the part begins with these numbers."""
    check_program(program)
    check_sound(program)
    return first_state(program, part, numbers)


def first_state(program, part, numbers):
    """The state with which a run of the part begins; the program is a sound one."""
    place = place_of(program, part)
    check_numbers(numbers, len(program[place][1]))
    return ((new_frame(program, place, numbers, None),), (), None)


def check_numbers(thing, many):
    """Refuse what isn't so many worths in a tuple or a list."""
    if not are_numbers(thing, many):
        raise NoNumbers(many)


def are_numbers(thing, many):
    """Whether the thing is so many worths in a tuple or a list."""
    if not isinstance(thing, (tuple, list)) or len(thing) != many:
        return False
    return all([is_worth(number) for number in thing])


def new_frame(program, place, numbers, hook):
    """A frame of the part of that number, its names set to the numbers, of that hook or None, as it begins."""
    known = tuple(sorted(list(zip(program[place][1], numbers))))
    return (place, 0, (), known, (), hook, ("call", None, 0))


def check_hooks(program, thing):
    """Refuse what isn't hooks; the program is one."""
    if not are_hooks(program, thing):
        raise NoHook("these are no hooks")


def are_hooks(program, thing):
    """Whether the thing is a tuple of none to four hooks; the program is one."""
    if not isinstance(thing, tuple) or len(thing) > MOST_HOOKS:
        return False
    return all([can_hook(program, hook) for hook in thing])


def is_hook(program, thing):
    """Whether the thing is a hook of the program."""
    check_program(program)
    return can_hook(program, thing)


def can_hook(program, thing):
    """Whether the thing is a hook; the program is one."""
    if not isinstance(thing, tuple) or len(thing) != 3:
        return False
    name, kinds, where = thing
    hooking = [part[0] for part in program if len(part[1]) == HOOK_NAMES]
    return name in hooking and are_kinds(kinds) and is_where(program, where)


def are_kinds(thing):
    """Whether the thing is a tuple of one to five unlike kinds."""
    if not isinstance(thing, tuple) or not 1 <= len(thing) <= len(KINDS):
        return False
    return all([kind in KINDS for kind in thing]) and are_unlike(thing)


def is_where(program, thing):
    """Whether the thing is None, or a part's name and a stretch of rows, which the part needn't have."""
    if thing is None:
        return True
    if not isinstance(thing, tuple) or len(thing) != 3:
        return False
    name, first, last = thing
    if name not in [part[0] for part in program]:
        return False
    return is_index(first, MOST_PART_ROWS) and is_index(last, MOST_PART_ROWS) and first <= last
