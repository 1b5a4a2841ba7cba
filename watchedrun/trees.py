"""What a tree of sayings is, and the program of rows that is made of it."""

from watchedrun.basics import are_headed, is_name, is_worth
from watchedrun.errors import TooLong
from watchedrun.programs import MOST_PART_ROWS

MOST_TUPLES = 6
MOST_SAYINGS_BESIDE = 6
MOST_DEEP = 4

OPS = ("add", "less", "times", "over", "same", "below")
VALUE_SAYINGS = ("say", "back", "throw")


def is_tree(thing):
    """Whether the thing is a tree."""
    if not are_headed(thing, MOST_TUPLES):
        return False
    takes = {name: len(names) for name, names, sayings in thing}
    return all([are_sayings(sayings, MOST_DEEP, takes) for name, names, sayings in thing])


def are_sayings(thing, deep, takes):
    """Whether the thing is sayings, each at most so deep.

    takes tells how many values a call takes, for each name that can be called.
    """
    if not isinstance(thing, tuple) or len(thing) > MOST_SAYINGS_BESIDE:
        return False
    return all([is_saying(saying, deep, takes) for saying in thing])


def is_saying(thing, deep, takes):
    """Whether the thing is a saying at most so deep."""
    if deep == 0 or not isinstance(thing, tuple) or len(thing) < 2:
        return False
    word = thing[0]
    if word == "set":
        return len(thing) == 3 and is_name(thing[1]) and is_value(thing[2], MOST_DEEP, takes)
    if word in VALUE_SAYINGS:
        return len(thing) == 2 and is_value(thing[1], MOST_DEEP, takes)
    if word == "if":
        return len(thing) == 4 and is_value(thing[1], MOST_DEEP, takes) and are_within(thing[2:], deep, takes)
    if word == "while":
        return len(thing) == 3 and is_value(thing[1], MOST_DEEP, takes) and are_within(thing[2:], deep, takes)
    if word == "try":
        return len(thing) == 4 and is_name(thing[2]) and are_within((thing[1], thing[3]), deep, takes)
    return False


def are_within(things, deep, takes):
    """Whether each of the things is sayings that may stand within a saying at most so deep."""
    return all([are_sayings(thing, deep - 1, takes) for thing in things])


def is_value(thing, deep, takes):
    """Whether the thing is a value at most so deep."""
    if deep == 0:
        return False
    if not isinstance(thing, tuple):
        return is_worth(thing)
    if len(thing) == 2:
        return thing[0] == "name" and is_name(thing[1])
    if len(thing) != 3:
        return False
    word, one, other = thing
    if word == "call":
        return is_name(one) and one in takes and are_values(other, takes[one], deep - 1, takes)
    return word in OPS and is_value(one, deep - 1, takes) and is_value(other, deep - 1, takes)


def are_values(thing, many, deep, takes):
    """Whether the thing is a tuple of so many values, each at most so deep."""
    if not isinstance(thing, tuple) or len(thing) != many:
        return False
    return all([is_value(value, deep, takes) for value in thing])


def made(tree):
    """The program that the tree is made to."""
    return tuple([made_part(name, names, sayings) for name, names, sayings in tree])


def made_part(name, names, sayings):
    """The part that one of a tree's tuples is made to."""
    rows = [*sayings_rows(sayings, 0), ("put", 0), ("back",)]
    if len(rows) > MOST_PART_ROWS:
        raise TooLong(len(rows))
    return (name, names, tuple(rows))


def sayings_rows(sayings, start):
    """The rows of these sayings, one behind another, where the first row is numbered start."""
    rows = []
    for saying in sayings:
        rows.extend(saying_rows(saying, start + len(rows)))
    return rows


def saying_rows(saying, start):
    """The rows of one saying, where the first row is numbered start."""
    word = saying[0]
    if word == "set":
        return [*value_rows(saying[2]), ("set", saying[1])]
    if word == "if":
        return if_rows(saying[1], saying[2], saying[3], start)
    if word == "while":
        return while_rows(saying[1], saying[2], start)
    if word == "try":
        return try_rows(saying[1], saying[2], saying[3], start)
    return [*value_rows(saying[1]), (word,)]


def if_rows(value, first, second, start):
    """The rows of an if: the second sayings stand ahead, as the row if goes on to them by itself."""
    asked = value_rows(value)
    otherwise = sayings_rows(second, start + len(asked) + 1)
    target = start + len(asked) + 1 + len(otherwise) + 1
    chosen = sayings_rows(first, target)
    return [*asked, ("if", target), *otherwise, ("go", target + len(chosen)), *chosen]


def while_rows(value, sayings, start):
    """The rows of a while: its last one goes back to where the value is asked for."""
    asked = value_rows(value)
    target = start + len(asked) + 2
    again = sayings_rows(sayings, target)
    return [*asked, ("if", target), ("go", target + len(again) + 1), *again, ("go", start)]


def try_rows(first, name, second, start):
    """The rows of a try: the taker begins with the fault's number on the pile, and sets the name to it."""
    tried = sayings_rows(first, start + 1)
    taker = start + 1 + len(tried) + 2
    taken = sayings_rows(second, taker + 1)
    end = taker + 1 + len(taken)
    return [("try", taker), *tried, ("done",), ("go", end), ("set", name), *taken]


def value_rows(value):
    """The rows that put a value on the pile."""
    if not isinstance(value, tuple):
        return [("put", value)]
    if value[0] == "name":
        return [("get", value[1])]
    if value[0] == "call":
        rows = []
        for inner in value[2]:
            rows.extend(value_rows(inner))
        return [*rows, ("call", value[1])]
    return [*value_rows(value[1]), *value_rows(value[2]), (value[0],)]
