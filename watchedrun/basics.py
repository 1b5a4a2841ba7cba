"""What a whole number, a worth and a name is, and a copy of any thing: what all other files build upon."""

MOST_WORTH = 10 ** 12
MOST_LETTERS = 8
MOST_NAMES = 3


def is_whole(thing):
    """Whether the thing is a whole number: a truth is none."""
    return isinstance(thing, int) and not isinstance(thing, bool)


def is_worth(thing):
    """Whether the thing is a whole number within the bounds of a worth."""
    return is_whole(thing) and -MOST_WORTH <= thing <= MOST_WORTH


def is_index(thing, many):
    """Whether the thing is the number of one of so many, numbered from 0."""
    return is_whole(thing) and 0 <= thing < many


def is_name(thing):
    """Whether the thing is a text of one to eight letters from a to z."""
    if not isinstance(thing, str) or len(thing) > MOST_LETTERS:
        return False
    return thing.isascii() and thing.isalpha() and thing.islower()


def are_names(thing):
    """Whether the thing is a tuple of none to three unlike names."""
    if not isinstance(thing, tuple) or len(thing) > MOST_NAMES:
        return False
    return all([is_name(name) for name in thing]) and are_unlike(thing)


def are_unlike(names):
    """Whether no name stands twice among these."""
    return len(set(names)) == len(names)


def is_headed(thing):
    """Whether the thing is a tuple (name, names, rest), whatever the rest is."""
    return isinstance(thing, tuple) and len(thing) == 3 and is_name(thing[0]) and are_names(thing[1])


def are_headed(thing, most):
    """Whether the thing is a tuple of one to so many tuples (name, names, rest) with unlike names."""
    if not isinstance(thing, tuple) or not 1 <= len(thing) <= most:
        return False
    return all([is_headed(one) for one in thing]) and are_unlike([one[0] for one in thing])


def own_copy(thing):
    """A copy of any thing, in which each list is new and stands once.

    It keeps its own pile of what is not copied to the end, as things may stand deeper within one another
    than calls may.
    """
    if not isinstance(thing, (list, tuple)):
        return thing
    begun = [(thing, [])]
    while True:
        source, copied = begun[-1]
        if len(copied) < len(source):
            inner = source[len(copied)]
            if isinstance(inner, (list, tuple)):
                begun.append((inner, []))
            else:
                copied.append(inner)
            continue
        begun.pop()
        whole = tuple(copied) if isinstance(source, tuple) else copied
        if not begun:
            return whole
        begun[-1][1].append(whole)
