"""Things that several tests hand in, and ways to put parts of a thing otherwise."""

from watchedrun.errors import TooLong
from watchedrun.meaning import meant
from watchedrun.trees import made


def nested(times, kind):
    """A list or a tuple of one thing, so many deep within one another."""
    thing = kind()
    for _ in range(times - 1):
        thing = kind([thing])
    return thing


def any_things():
    """Things of every kind, new ones each time, so that a test may change them."""
    return [
        None, True, False, 0, 1, -1, 2, 59, 60, 10 ** 12, -10 ** 12, 10 ** 39, -10 ** 39,
        "", " ", "a", "A", "put", "main ", "Main", "mainmainm", "0", "x" * 6000,
        [], (), [[]], ((),), [()], ([],), [None], (None,), [True], (False,), [0], (0,), ["main"], ("main",),
        ["main", [1, [2, [True, None]]], ("a", ["b"])], (("put", 0),), [("main", (), (("back",),))],
        nested(30, list), nested(30, tuple), list(range(20000)), tuple(range(20000)),
    ]


def very_deep(word="add", times=200000):
    """A thing deeper than calls can go."""
    thing = 1
    for _ in range(times):
        thing = (word, thing, 1)
    return thing


def places(thing, path=()):
    """Each place within a thing, as a tuple of indices, the outermost first, with what stands there."""
    yield path, thing
    if isinstance(thing, (list, tuple)):
        for at, inner in enumerate(thing):
            yield from places(inner, path + (at,))


def put_otherwise(thing, path, new):
    """The thing with something else at that place."""
    if not path:
        return new
    inner = put_otherwise(thing[path[0]], path[1:], new)
    return thing[:path[0]] + type(thing)([inner]) + thing[path[0] + 1:]


def shown(thing):
    """A thing for the words of a test that fails."""
    try:
        return repr(thing)[:500]
    except RecursionError:
        return "a very deep thing"


def random_value(source, deep):
    """A value at most so deep, by a source of numbers; its calls are of the tuples none, one and two."""
    choice = source.randrange(8 if deep > 1 else 4)
    if choice == 0:
        return source.choice((0, 1, -1, 2, 3, -7, 10 ** 6, 10 ** 12, -10 ** 12))
    if choice < 3:
        return ("name", source.choice("abc"))
    if choice == 3:
        return ("call", "none", ())
    if choice == 4:
        return ("call", "one", (random_value(source, deep - 1),))
    if choice == 5:
        return ("call", "two", (random_value(source, deep - 1), random_value(source, deep - 1)))
    op = source.choice(("add", "less", "times", "over", "same", "below"))
    return (op, random_value(source, deep - 1), random_value(source, deep - 1))


def random_sayings(source, deep, most=3):
    """None to so many sayings, each at most so deep."""
    return tuple(random_saying(source, deep) for _ in range(source.randrange(most + 1)))


def random_saying(source, deep):
    value = random_value(source, 3)
    word = source.choice(("set", "set", "set", "say", "say", "back", "throw", "if", "while", "try", "try"))
    if word == "set":
        return ("set", source.choice("abc"), value)
    if word in ("say", "back", "throw"):
        return (word, value)
    first = random_sayings(source, deep - 1) if deep > 1 else ()
    second = random_sayings(source, deep - 1) if deep > 1 else ()
    return {"if": ("if", value, first, second), "while": ("while", value, first),
            "try": ("try", first, source.choice("abc"), second)}[word]


def random_tree(source, deep):
    """A tree of the tuples main (with two names), none, one and two, its sayings at most so deep."""
    return tuple((name, names, random_sayings(source, deep, 4)) for name, names in (
        ("main", ("a", "b")), ("none", ()), ("one", ("a",)), ("two", ("b", "c"))))


def random_meanings(source, many):
    """Tuples (program, numbers, said, end): of trees made to rows, what they mean with these numbers."""
    for _ in range(many):
        tree = random_tree(source, 2)
        numbers = (source.randrange(-2, 5), source.randrange(-2, 5))
        try:
            yield (made(tree), numbers, *meant(tree, "main", numbers))
        except TooLong:
            continue


class RowMaker:
    """Rows of a sound part by a source of numbers, every word among them."""

    def __init__(self, source, takes, watching):
        self.source = source
        self.takes = takes
        self.watching = watching
        self.rows = []

    def value(self, deep):
        """Rows that put one number on the pile."""
        choice = self.source.randrange(12 if deep > 0 else 6)
        if choice < 3:
            self.rows.append(("put", self.source.choice((0, 1, -1, 2, 3, 5, 7, -7, 10 ** 6, 10 ** 12, -10 ** 12))))
        elif choice < 5:
            self.rows.append(("get", self.source.choice("abk")))
        elif choice == 5:
            self.rows.append(("look", self.source.choice("abk")) if self.watching else ("put", 4))
        elif choice < 9:
            self.value(deep - 1)
            self.value(deep - 1)
            if choice == 8:
                self.rows.append(("swap",))
            self.rows.append((self.source.choice(("add", "less", "times", "over", "same", "below", "away")),))
        elif choice == 9:
            self.value(deep - 1)
            self.rows.append(("twin",))
            self.rows.append((self.source.choice(("add", "less", "times", "over", "same", "below", "away")),))
        else:
            called = self.source.choice(sorted(self.takes))
            for _ in range(self.takes[called]):
                self.value(deep - 1)
            self.rows.append(("call", called))

    def jump(self, word):
        """A row that is to lead to a row not known yet: its place."""
        self.rows.append((word, None))
        return len(self.rows) - 1

    def land(self, place):
        """Let that row lead to the row that comes next."""
        self.rows[place] = (self.rows[place][0], len(self.rows))

    def some(self, deep, most):
        for _ in range(self.source.randrange(most + 1)):
            self.saying(deep)

    def saying(self, deep):
        """Rows behind which the pile and the guards are as ahead of them."""
        words = ["set", "set", "say", "say", "away", "back", "throw", "if", "while", "try", "try", "lone"]
        if self.watching:
            words += ["change", "lead", "lead", "turn", "turn"]
        word = self.source.choice(words)
        if word == "try":
            guard = self.jump("try")
            self.some(deep - 1, 2 if deep > 0 else 0)
            self.rows.append(("done",))
            end = self.jump("go")
            self.land(guard)
            self.rows.append(("set", "k"))
            self.some(deep - 1, 1 if deep > 0 else 0)
            self.land(end)
            return
        begin = len(self.rows)
        if word == "lead":
            self.rows.append(("put", self.source.randrange(-1, 12)))
        else:
            self.value(2)
        if word in ("set", "change"):
            self.rows.append((word, self.source.choice("abk")))
        elif word == "lone":
            self.value(1)
            self.rows.extend([("swap",), ("away",), ("away",)])
        elif word in ("if", "while"):
            to = self.jump("if")
            self.some(deep - 1, 1 if deep > 0 and word == "if" else 0)
            end = self.jump("go")
            self.land(to)
            self.some(deep - 1, 2 if deep > 0 else 0)
            if word == "while":
                self.rows.append(("go", begin))
            self.land(end)
        else:
            self.rows.append((word,))


def random_rows(source, takes, watching):
    """The rows of a part that may call others, which take so many numbers: sound, at most sixty."""
    while True:
        maker = RowMaker(source, takes, watching)
        for _ in range(source.randrange(1, 5)):
            maker.saying(2)
        maker.value(1)
        maker.rows.append(("back",))
        rows = tuple(maker.rows)
        if len(rows) <= 60:
            return rows


def random_program(source):
    """A sound program of the parts main, one, two (with so many names) and the hooks' watch and other."""
    parts = (("main", ("a", "b")), ("one", ("a",)), ("two", ("b", "k")), ("watch", ("k", "r", "w")),
             ("other", ("a", "b", "k")))
    plain = {"one": 1, "two": 2}
    return tuple((name, names, random_rows(source, plain if name != "one" else {"two": 2, "one": 1},
                                           len(names) == 3 or name == "two"))
                 for name, names in parts)


def random_hooks(source):
    """None to four hooks of such a program."""
    hooks = []
    for _ in range(source.randrange(5)):
        kinds = ["call", "row", "back", "fault", "caught"]
        source.shuffle(kinds)
        where = None
        if source.randrange(2):
            first = source.randrange(6)
            where = (source.choice(("main", "one", "two", "watch", "other")), first, first + source.randrange(20))
        hooks.append((source.choice(("watch", "other")), tuple(kinds[:source.randrange(1, 6)]), where))
    return tuple(hooks)
