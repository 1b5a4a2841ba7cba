"""Things that several tests hand in, and ways to put parts of a thing otherwise."""


def nested(times, kind):
    """A list or a tuple of one thing, so many deep within one another."""
    thing = kind()
    for _ in range(times - 1):
        thing = kind([thing])
    return thing


def any_things():
    """Things of every kind, new ones each time, so that a test may change them."""
    return [
        None, True, False, 0, 1, -1, 2, 59, 60, 10 ** 12, -10 ** 12, 10 ** 39, -10 ** 39,
        "", " ", "a", "A", "put", "main ", "Main", "mainmainm", "0", "x" * 6000,
        [], (), [[]], ((),), [()], ([],), [None], (None,), [True], (False,), [0], (0,), ["main"], ("main",),
        ["main", [1, [2, [True, None]]], ("a", ["b"])], (("put", 0),), [("main", (), (("back",),))],
        nested(30, list), nested(30, tuple), list(range(20000)), tuple(range(20000)),
    ]


def very_deep(word="add", times=200000):
    """A thing deeper than calls can go."""
    thing = 1
    for _ in range(times):
        thing = (word, thing, 1)
    return thing


def places(thing, path=()):
    """Each place within a thing, as a tuple of indices, the outermost first, with what stands there."""
    yield path, thing
    if isinstance(thing, (list, tuple)):
        for at, inner in enumerate(thing):
            yield from places(inner, path + (at,))


def put_otherwise(thing, path, new):
    """The thing with something else at that place."""
    if not path:
        return new
    inner = put_otherwise(thing[path[0]], path[1:], new)
    return thing[:path[0]] + type(thing)([inner]) + thing[path[0] + 1:]


def shown(thing):
    """A thing for the words of a test that fails."""
    try:
        return repr(thing)[:500]
    except RecursionError:
        return "a very deep thing"
