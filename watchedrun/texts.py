"""Programs written as texts, and such texts read."""

from watchedrun.basics import is_name
from watchedrun.errors import NoText
from watchedrun.figures import number_by_tens, number_by_tens_or_sixteens
from watchedrun.programs import LONE_WORDS, NAME_WORDS, ROW_WORDS, check_program

# As many rows as two figures can number.
MOST_NUMBERED = 100


def show_program(program):
    """The text of a program."""
    check_program(program)
    lines = []
    for name, names, rows in program:
        lines.append(" ".join(["part", name, *names]))
        for at, row in enumerate(rows):
            lines.append(" ".join([f"{at:02d}", *[str(told) for told in row]]))
    return "\n".join(lines)


def read_program(text):
    """The program of which this is the text."""
    if not isinstance(text, str):
        raise NoText(0)
    parts = []
    lines = text.split("\n")
    for at, line in enumerate(lines):
        words = line.split(" ")
        if is_heading(words) and has_rows(parts):
            parts.append((words[1], tuple(words[2:]), []))
            continue
        row = read_row(words[1:])
        if row is None or not parts or not is_numbered(words[0], len(parts[-1][2])):
            raise NoText(at)
        parts[-1][2].append(row)
    if not has_rows(parts):
        raise NoText(len(lines))
    program = tuple([(name, names, tuple(rows)) for name, names, rows in parts])
    check_program(program)
    return program


def is_heading(words):
    """Whether these are the words of a part, its name and names."""
    return words[0] == "part" and len(words) > 1 and all([is_name(word) for word in words[1:]])


def has_rows(parts):
    """Whether the last part has a row, so that another one may begin or the text may end."""
    return not parts or len(parts[-1][2]) > 0


def is_numbered(word, at):
    """Whether the word is that number of a row in two figures."""
    return at < MOST_NUMBERED and word == f"{at:02d}"


def read_row(words):
    """The row of these words, without its number, None where they are no row's."""
    if len(words) == 1:
        return (words[0],) if words[0] in LONE_WORDS else None
    if len(words) != 2:
        return None
    word, told = words
    if word == "call" or word in NAME_WORDS:
        return (word, told) if is_name(told) else None
    number = None
    if word == "put":
        number = number_by_tens_or_sixteens(told)
    elif word in ROW_WORDS:
        number = number_by_tens(told)
        if number is not None and number < 0:
            return None
    return None if number is None else (word, number)
