"""Papers of a program: of parts that are sound or not, of rows that agree or don't, and of runs."""

from watchedrun.changing import changed
from watchedrun.errors import Unsound
from watchedrun.programs import check_program, check_row, rows_of
from watchedrun.standings import check_sound, surveyed, walk_to
from watchedrun.states import check_hooks, first_state


def part_paper(program, part):
    """A paper that the part is sound, or that it isn't."""
    check_program(program)
    many = len(rows_of(program, part))
    met, ahead, paper = surveyed(program, part)
    if paper is not None:
        return paper
    known = [met.get(at) for at in range(many)]
    walks = [walk_to(ahead, at) if at in met else None for at in range(many)]
    return ("sound", part, known, walks)


def rows_paper(program, part, one, other):
    """A paper that the two rows agree, that they don't, or that the first such of them is never met."""
    check_program(program)
    rows = rows_of(program, part)
    check_row(rows, one)
    check_row(rows, other)
    met, ahead, paper = surveyed(program, part)
    if paper is not None:
        raise Unsound(part, paper)
    for row in (one, other):
        if row not in met:
            return ("unmet", part, row, sorted(list(met)))
    word = "agree" if met[one] == met[other] else "apart"
    return (word, part, walk_to(ahead, one), walk_to(ahead, other))


def run_paper(program, part, numbers=(), *, hooks=(), most=40):
    """A paper of a run of the part with these numbers, which the hooks watch, of so many changes or fewer."""
    check_program(program)
    check_sound(program)
    state = first_state(program, part, numbers)
    check_hooks(program, hooks)
    states = [state]
    while state[0] and len(states) <= most:
        state = changed(program, hooks, state)
        states.append(state)
    return ("run", part, tuple(numbers), hooks, states)
