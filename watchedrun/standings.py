"""Standings: how high the pile is and which guards are open at each row of a part, and which parts are sound."""

from watchedrun.errors import Unsound
from watchedrun.programs import check_program, check_row, place_of, rows_of

BEGINNING = (0, ())

# How many numbers the row of each word takes and gives, but that of call, which hangs on the part.
TAKEN_AND_GIVEN = {
    "put": (0, 1), "get": (0, 1), "look": (0, 1),
    "set": (1, 0), "change": (1, 0), "if": (1, 0), "away": (1, 0), "say": (1, 0),
    "back": (1, 0), "throw": (1, 0), "lead": (1, 0), "turn": (1, 0),
    "add": (2, 1), "less": (2, 1), "times": (2, 1), "over": (2, 1), "same": (2, 1), "below": (2, 1),
    "twin": (1, 2), "swap": (2, 2),
    "go": (0, 0), "try": (0, 0), "done": (0, 0),
}


def standings(program, part):
    """The list of the standings of the part's rows, None of a row that no walk meets."""
    check_program(program)
    met = sound_rows(program, part)
    return [met.get(at) for at in range(len(rows_of(program, part)))]


def is_sound(program):
    """Whether each part of the program is sound."""
    check_program(program)
    return all([is_sound_part(program, name) for name, names, rows in program])


def is_sound_part(program, part):
    """Whether the part of that name is sound; the program is one."""
    met, ahead, paper = surveyed(program, part)
    return paper is None


def agree(program, part, one, other):
    """Whether both rows of the part are met, with the same standing."""
    check_program(program)
    rows = rows_of(program, part)
    check_row(rows, one)
    check_row(rows, other)
    met = sound_rows(program, part)
    return one in met and other in met and met[one] == met[other]


def check_sound(program):
    """Refuse a program that isn't sound; it is a program."""
    for name, names, rows in program:
        sound_rows(program, name)


def sound_rows(program, part):
    """The standings of a part's rows that are met, by their numbers; refused where the part isn't sound."""
    met, ahead, paper = surveyed(program, part)
    if paper is not None:
        raise Unsound(part, paper)
    return met


def surveyed(program, part):
    """A tuple of the standings of the rows that are met, of the row ahead of each, and of a paper.

    Each row is walked on from with the first standing that it is met with: where a walk comes to it with
    another one, the part isn't sound, and there is a paper of that. Of a sound part the paper is None.
    """
    rows = rows_of(program, part)
    met = {0: BEGINNING}
    ahead = {0: None}
    due = [0]
    while due:
        at = due.pop(0)
        if lacks(program, rows[at], met[at]):
            return (met, ahead, ("lacks", part, walk_to(ahead, at)))
        onward = leads(program, rows, at, met[at])
        for row, standing in onward:
            if row == len(rows):
                return (met, ahead, ("falls", part, walk_to(ahead, at)))
            if row not in met:
                met[row] = standing
                ahead[row] = at
                due.append(row)
            elif met[row] != standing:
                return (met, ahead, ("two", part, walk_to(ahead, row), [*walk_to(ahead, at), row]))
    return (met, ahead, None)


def walk_to(ahead, row):
    """The walk to a row, by what is told of the row ahead of each."""
    walk = []
    while row is not None:
        walk.append(row)
        row = ahead[row]
    return walk[::-1]


def taken_and_given(program, row):
    """How many numbers a row takes and gives."""
    if row[0] == "call":
        return (len(program[place_of(program, row[1])][1]), 1)
    return TAKEN_AND_GIVEN[row[0]]


def lacks(program, row, standing):
    """Whether a row lacks numbers, or a guard, with that standing."""
    height, guards = standing
    floor = guards[-1][1] if guards else 0
    taken, given = taken_and_given(program, row)
    return height - floor < taken or (row[0] == "done" and not guards)


def leads(program, rows, at, standing):
    """The rows to which the row numbered at leads, each with its standing; it doesn't lack."""
    height, guards = standing
    row = rows[at]
    word = row[0]
    taken, given = taken_and_given(program, row)
    behind = (height - taken + given, guards)
    if word in ("back", "throw"):
        return []
    if word == "go":
        return [(row[1], behind)]
    if word == "if":
        return [(at + 1, behind), (row[1], behind)]
    if word == "try":
        return [(at + 1, (height, (*guards, (row[1], height)))), (row[1], (height + 1, guards))]
    if word == "done":
        return [(at + 1, (height, guards[:-1]))]
    return [(at + 1, behind)]
