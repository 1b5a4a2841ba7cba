"""Things that several tests hand in, and ways to put parts of a thing otherwise."""


def nested(times, kind):
    """A list or a tuple of one thing, so many deep within one another."""
    thing = kind()
    for _ in range(times - 1):
        thing = kind([thing])
    return thing


def any_things():
    """Things of every kind, new ones each time, so that a test may change them."""
    return [
        None, True, False, 0, 1, -1, 2, 59, 60, 10 ** 12, -10 ** 12, 10 ** 39, -10 ** 39,
        "", " ", "a", "A", "put", "main ", "Main", "mainmainm", "0", "x" * 6000,
        [], (), [[]], ((),), [()], ([],), [None], (None,), [True], (False,), [0], (0,), ["main"], ("main",),
        ["main", [1, [2, [True, None]]], ("a", ["b"])], (("put", 0),), [("main", (), (("back",),))],
        nested(30, list), nested(30, tuple), list(range(20000)), tuple(range(20000)),
    ]


def very_deep(word="add", times=200000):
    """A thing deeper than calls can go."""
    thing = 1
    for _ in range(times):
        thing = (word, thing, 1)
    return thing


def places(thing, path=()):
    """Each place within a thing, as a tuple of indices, the outermost first, with what stands there."""
    yield path, thing
    if isinstance(thing, (list, tuple)):
        for at, inner in enumerate(thing):
            yield from places(inner, path + (at,))


def put_otherwise(thing, path, new):
    """The thing with something else at that place."""
    if not path:
        return new
    inner = put_otherwise(thing[path[0]], path[1:], new)
    return thing[:path[0]] + type(thing)([inner]) + thing[path[0] + 1:]


def shown(thing):
    """A thing for the words of a test that fails."""
    try:
        return repr(thing)[:500]
    except RecursionError:
        return "a very deep thing"


def random_value(source, deep):
    """A value at most so deep, by a source of numbers; its calls are of the tuples none, one and two."""
    choice = source.randrange(8 if deep > 1 else 4)
    if choice == 0:
        return source.choice((0, 1, -1, 2, 3, -7, 10 ** 6, 10 ** 12, -10 ** 12))
    if choice < 3:
        return ("name", source.choice("abc"))
    if choice == 3:
        return ("call", "none", ())
    if choice == 4:
        return ("call", "one", (random_value(source, deep - 1),))
    if choice == 5:
        return ("call", "two", (random_value(source, deep - 1), random_value(source, deep - 1)))
    op = source.choice(("add", "less", "times", "over", "same", "below"))
    return (op, random_value(source, deep - 1), random_value(source, deep - 1))


def random_sayings(source, deep, most=3):
    """None to so many sayings, each at most so deep."""
    return tuple(random_saying(source, deep) for _ in range(source.randrange(most + 1)))


def random_saying(source, deep):
    value = random_value(source, 3)
    word = source.choice(("set", "set", "set", "say", "say", "back", "throw", "if", "while", "try", "try"))
    if word == "set":
        return ("set", source.choice("abc"), value)
    if word in ("say", "back", "throw"):
        return (word, value)
    first = random_sayings(source, deep - 1) if deep > 1 else ()
    second = random_sayings(source, deep - 1) if deep > 1 else ()
    return {"if": ("if", value, first, second), "while": ("while", value, first),
            "try": ("try", first, source.choice("abc"), second)}[word]


def random_tree(source, deep):
    """A tree of the tuples main (with two names), none, one and two, its sayings at most so deep."""
    return tuple((name, names, random_sayings(source, deep, 4)) for name, names in (
        ("main", ("a", "b")), ("none", ()), ("one", ("a",)), ("two", ("b", "c"))))
