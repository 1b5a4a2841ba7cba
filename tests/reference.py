"""What the document says of rows, written once more and otherwise, so that tests hold answers against it."""

# word: numbers taken, numbers given
EFFECTS = {}
for words, taken, given in (
    ("put get look", 0, 1), ("set change if away say back throw lead turn", 1, 0),
    ("add less times over same below", 2, 1), ("twin", 1, 2), ("swap", 2, 2), ("go try done", 0, 0),
):
    for word in words.split():
        EFFECTS[word] = (taken, given)


def part_of(program, name):
    return {part[0]: part for part in program}[name]


def effect(program, row):
    if row[0] == "call":
        return len(part_of(program, row[1])[1]), 1
    return EFFECTS[row[0]]


def onward(program, name, at, standing):
    """None where the row lacks, else a dict of the rows to which it leads with their standings."""
    row = part_of(program, name)[2][at]
    height, guards = standing
    taken, given = effect(program, row)
    beneath = 0
    for _, guarded in guards:
        beneath = guarded
    if height < beneath + taken:
        return None
    if row[0] == "done" and guards == ():
        return None
    height += given - taken
    if row[0] in {"back", "throw"}:
        return {}
    if row[0] == "go":
        return {row[1]: (height, guards)}
    if row[0] == "if":
        return {at + 1: (height, guards), row[1]: (height, guards)}
    if row[0] == "try":
        return {at + 1: (height, guards + ((row[1], height),)), row[1]: (height + 1, guards)}
    if row[0] == "done":
        return {at + 1: (height, guards[:len(guards) - 1])}
    return {at + 1: (height, guards)}


def standing_by(program, name, walk):
    """The standing of a walk's last row; what is no walk is told by an AssertionError."""
    assert type(walk) is list and walk and all(type(row) is int for row in walk), walk
    assert walk[0] == 0, walk
    standing = (0, ())
    many = len(part_of(program, name)[2])
    for row, following in zip(walk, walk[1:]):
        led = onward(program, name, row, standing)
        assert led is not None and following in led and 0 <= following < many, (walk, row, following)
        standing = led[following]
    return standing


def check_unsound_paper(program, name, paper):
    """An AssertionError where this isn't a paper that the part isn't sound."""
    assert type(paper) is tuple and paper[1] == name, paper
    standing = standing_by(program, name, paper[2])
    last = paper[2][-1]
    if paper[0] == "two":
        assert len(paper) == 4, paper
        other = standing_by(program, name, paper[3])
        assert paper[3][-1] == last and other != standing, paper
        assert paper[2] is not paper[3], paper
        return
    assert len(paper) == 3, paper
    led = onward(program, name, last, standing)
    if paper[0] == "lacks":
        assert led is None, paper
        return
    assert paper[0] == "falls", paper
    assert led is not None and len(part_of(program, name)[2]) in led, paper


def all_standings(program, name, limit=400):
    """The list of a part's standings, None where it isn't sound: each pair of a row and a standing is gone to.

    Where there are more pairs than there are rows, some row has two standings.
    """
    many = len(part_of(program, name)[2])
    pairs = {(0, (0, ()))}
    due = [(0, (0, ()))]
    while due and len(pairs) <= limit:
        at, standing = due.pop()
        led = onward(program, name, at, standing)
        if led is None or many in led:
            return None
        for pair in led.items():
            if pair not in pairs:
                pairs.add(pair)
                due.append(pair)
    told = dict(pairs)
    if len(told) < len(pairs):
        return None
    return [told.get(at) for at in range(many)]


class Frame:

    def __init__(self, part, numbers):
        self.rows = part[2]
        self.names = dict(zip(part[1], numbers))
        self.at = 0
        self.pile = []
        self.guards = []


def op(word, one, other):
    if word == "over":
        if other == 0:
            return None, -1
        rest = one % abs(other)
        exact = (one - rest) // abs(other)
        number = exact if other > 0 else -exact - (1 if rest else 0)
    else:
        number = {"add": one + other, "less": one - other, "times": one * other,
                  "same": int(one == other), "below": int(one < other)}[word]
    return (number, None) if abs(number) <= 10 ** 12 else (None, -2)


def run_rows(program, name, numbers, most=4000):
    """A tuple (said, end) of a run without hooks, end None where more rows than that would be done."""
    said = []
    frames = [Frame(part_of(program, name), numbers)]
    for _ in range(most):
        frame = frames[-1]
        word, *told = frame.rows[frame.at]
        fault = None
        if word == "call":
            called = part_of(program, told[0])
            if len(frames) == 12:
                fault = -4
            else:
                many = len(called[1])
                taken = frame.pile[len(frame.pile) - many:]
                del frame.pile[len(frame.pile) - many:]
                frames.append(Frame(called, taken))
                continue
        elif word == "back":
            worth = frame.pile[-1]
            frames.pop()
            if not frames:
                return tuple(said), ("back", worth)
            frames[-1].pile.append(worth)
            frames[-1].at += 1
            continue
        else:
            fault = simple_row(frame, word, told, said)
        if fault is None:
            continue
        while frames and not frames[-1].guards:
            frames.pop()
        if not frames:
            return tuple(said), ("fault", fault)
        row, height = frames[-1].guards.pop()
        del frames[-1].pile[height:]
        frames[-1].pile.append(fault)
        frames[-1].at = row
    return tuple(said), None


def simple_row(frame, word, told, said):
    """Do a row that is neither call nor back; the number of its fault or None."""
    pile = frame.pile
    if word == "throw":
        return pile[-1]
    if word == "get" and told[0] not in frame.names:
        return -3
    if word in ("add", "less", "times", "over", "same", "below"):
        number, fault = op(word, pile[-2], pile[-1])
        if fault is not None:
            return fault
        pile[-2:] = [number]
    elif word == "put":
        pile.append(told[0])
    elif word == "get":
        pile.append(frame.names[told[0]])
    elif word == "set":
        frame.names[told[0]] = pile.pop()
    elif word == "say":
        said.append(pile.pop())
    elif word == "try":
        frame.guards.append((told[0], len(pile)))
    elif word == "done":
        frame.guards.pop()
    elif word == "go" or (word == "if" and pile.pop() != 0):
        frame.at = told[0]
        return None
    elif word != "if":
        raise ValueError(word)
    frame.at += 1
    return None


def check_paper(program, paper):
    """An AssertionError where this isn't a paper of the program that holds."""
    assert type(paper) is tuple and 3 <= len(paper) <= 5
    word, name, *told = paper
    assert type(word) is str and type(name) is str and name in [part[0] for part in program]
    rows = part_of(program, name)[2]
    lengths = {"lacks": 1, "falls": 1, "two": 2, "sound": 2, "agree": 2, "apart": 2, "unmet": 2, "run": 3}
    assert lengths.get(word) == len(told)
    if word in ("lacks", "falls", "two"):
        check_unsound_paper(program, name, (word, name, *[check_row_list(one, rows) for one in told]))
    elif word == "sound":
        check_sound_paper(program, name, rows, *told)
    elif word == "run":
        check_run_paper(program, name, *told)
    else:
        known = all_standings(program, name)
        assert known is not None
        if word == "unmet":
            check_unmet_paper(program, rows, *told)
        else:
            one, other = [standing_by(program, name, check_row_list(walk, rows)) for walk in told]
            assert (one == other) is (word == "agree")


def check_row_list(thing, rows):
    assert type(thing) is list and all(type(row) is int and 0 <= row < len(rows) for row in thing)
    return list(thing)


def check_sound_paper(program, name, rows, known, walks):
    assert type(known) is list and type(walks) is list and len(known) == len(walks) == len(rows)
    for at, (standing, walk) in enumerate(zip(known, walks)):
        if standing is None:
            assert walk is None and at > 0
            continue
        assert check_row_list(walk, rows)[-1:] == [at]
        assert repr(standing_by(program, name, walk)) == repr(standing)
        led = onward(program, name, at, standing)
        assert led is not None
        for row, behind in led.items():
            assert row < len(rows) and repr(known[row]) == repr(behind)


def check_unmet_paper(program, rows, row, met):
    check_row_list([row], rows)
    check_row_list(met, rows)
    assert all(one < other for one, other in zip(met, met[1:])) and 0 in met and row not in met
    for at in met:
        word, *told = rows[at]
        due = set() if word in ("back", "throw", "go") else {at + 1}
        if word in ("go", "if", "try"):
            due.add(told[0])
        assert all(led in met or led == len(rows) for led in due)


def check_run_paper(program, name, worths, hooks, states):
    from tests.machine import KINDS, Machine
    known = {part[0]: all_standings(program, part[0]) for part in program}
    assert None not in known.values()
    names = {part[0]: part[1] for part in program}
    assert type(worths) is tuple and len(worths) == len(names[name])
    assert all(type(worth) is int and abs(worth) <= 10 ** 12 for worth in worths)
    assert type(hooks) is tuple and len(hooks) <= 4
    for hook in hooks:
        assert type(hook) is tuple and len(hook) == 3
        hooking, kinds, where = hook
        assert type(hooking) is str and len(names.get(hooking, ())) == 3
        assert type(kinds) is tuple and 1 <= len(kinds) <= 5 and all(kind in KINDS for kind in kinds) and len(set(kinds)) == len(kinds)
        if where is not None:
            assert type(where) is tuple and len(where) == 3 and type(where[0]) is str and where[0] in names
            assert all(type(row) is int for row in where[1:]) and 0 <= where[1] <= where[2] <= 59
    assert type(states) is list and 1 <= len(states) <= 600
    machine = Machine(program, hooks, name, worths, known)
    for at, state in enumerate(states):
        if at:
            assert machine.frames
            machine.change()
        assert repr(machine.state()) == repr(state)


def paper_holds(program, paper):
    """Whether this is a paper of the program that holds."""
    try:
        check_paper(program, paper)
    except AssertionError:
        return False
    return True
