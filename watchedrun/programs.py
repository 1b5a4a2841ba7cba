"""What a program of rows is, and what is told of its parts and rows."""

from watchedrun.basics import are_headed, is_index, is_name, is_worth
from watchedrun.errors import NoPart, NoProgram, NoRow

MOST_PARTS = 8
MOST_PART_ROWS = 60

NAME_WORDS = ("get", "set", "look", "change")
ROW_WORDS = ("go", "if", "try")
LONE_WORDS = (
    "add", "less", "times", "over", "same", "below", "twin", "swap", "away",
    "say", "back", "throw", "done", "lead", "turn",
)


def is_program(thing):
    """Whether the thing is a program."""
    if not are_headed(thing, MOST_PARTS):
        return False
    called = [part[0] for part in thing]
    return all([are_rows(part[2], called) for part in thing])


def are_rows(thing, called):
    """Whether the thing is the rows of a part, in a program whose parts are so called."""
    if not isinstance(thing, tuple) or not 1 <= len(thing) <= MOST_PART_ROWS:
        return False
    return all([is_row(row, at, len(thing), called) for at, row in enumerate(thing)])


def is_row(thing, at, many, called):
    """Whether the thing can be the row numbered at, of so many, in a program whose parts are so called."""
    if not isinstance(thing, tuple):
        return False
    if len(thing) == 1:
        return thing[0] in LONE_WORDS
    if len(thing) != 2:
        return False
    word, told = thing
    if word == "put":
        return is_worth(told)
    if word in NAME_WORDS:
        return is_name(told)
    if word == "call":
        return told in called
    return word in ROW_WORDS and is_index(told, many) and not (word == "try" and told == at + 1)


def check_program(thing):
    """Refuse what is no program."""
    if not is_program(thing):
        raise NoProgram("this is no program")


def place_of(program, part):
    """The number of the part of that name; the program is one."""
    for number, (name, names, rows) in enumerate(program):
        if name == part:
            return number
    raise NoPart(part)


def rows_of(program, part):
    """The rows of the part of that name; the program is one."""
    return program[place_of(program, part)][2]


def part_number(program, part):
    """The number of the part of that name."""
    check_program(program)
    return place_of(program, part)


def row_at(program, part, row):
    """The row of that number, of the part of that name."""
    check_program(program)
    rows = rows_of(program, part)
    check_row(rows, row)
    return rows[row]


def check_row(rows, thing):
    """Refuse what isn't the number of one of these rows."""
    if not is_index(thing, len(rows)):
        raise NoRow(thing)


def names_in(program, part):
    """The sorted names that the part tells, its own and those of its rows, each once."""
    check_program(program)
    name, names, rows = program[place_of(program, part)]
    told = [row[1] for row in rows if row[0] in NAME_WORDS]
    return sorted(set(list(names) + told))


def callers(program):
    """For each part in order the sorted names of the parts that it calls, each once."""
    check_program(program)
    return [called_by(rows) for name, names, rows in program]


def called_by(rows):
    """The sorted names of the parts that these rows call, each once."""
    return sorted(set([row[1] for row in rows if row[0] == "call"]))
