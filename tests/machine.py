"""What the document says of watched runs, written once more and otherwise: frames that are changed in place."""

from tests.reference import op, part_of

KINDS = ["call", "row", "back", "fault", "caught"]
OPS = {"add", "less", "times", "over", "same", "below"}


class Frame:

    def __init__(self, part, numbers, hook=None):
        self.part = part
        self.at = 0
        self.pile = []
        self.names = dict(zip(part[1], numbers))
        self.guards = []
        self.hook = hook
        self.moment = ["call", None, 0]

    def told(self, program):
        moment = None if self.moment is None else tuple(self.moment)
        return ([part[0] for part in program].index(self.part[0]), self.at, tuple(self.pile),
                tuple(sorted(self.names.items())), tuple(self.guards), self.hook, moment)


class Machine:
    """A run of a part; heard are the tuples (inner, kind, depth, part, row, worth) of the moments that are over."""

    def __init__(self, program, hooks, name, numbers, standings):
        self.program = program
        self.hooks = hooks
        self.frames = [Frame(part_of(program, name), numbers)]
        self.said = []
        self.end = None
        self.heard = []
        self.rows = 0
        self.standings = standings

    def state(self):
        return (tuple(frame.told(self.program) for frame in self.frames), tuple(self.said), self.end)

    def level(self):
        """The frames of the top one's level, the top one first."""
        frames = []
        for frame in reversed(self.frames):
            frames.append(frame)
            if frame.hook is not None:
                break
        return frames

    def rank(self):
        number = self.level()[-1].hook
        return len(self.hooks) if number is None else number

    def watched(self):
        level = self.level()
        return None if level[-1].hook is None else self.frames[len(self.frames) - len(level) - 1]

    def asked(self):
        """The hook that is run next, or None."""
        top = self.frames[-1]
        for number, (_, kinds, where) in enumerate(self.hooks):
            if top.moment[2] <= number < self.rank() and top.moment[0] in kinds:
                if where is None or (top.part[0] == where[0] and where[1] <= top.at <= where[2]):
                    return number
        return None

    def does_a_row(self):
        return self.asked() is None and self.frames[-1].moment[0] == "row"

    def change(self):
        top = self.frames[-1]
        kind, worth, _ = top.moment
        number = self.asked()
        if number is not None:
            top.moment[2] = number + 1
            told = [KINDS.index(kind), top.at, worth or 0]
            self.frames.append(Frame(part_of(self.program, self.hooks[number][0]), told, number))
            return
        inner = self.level()[-1].hook is not None
        self.heard.append((inner, kind, len(self.level()), top.part[0], top.at, worth))
        {"call": self.call_over, "row": self.row_over, "back": self.back_over, "fault": self.fault_over,
         "caught": self.caught_over}[kind](top, worth)

    def call_over(self, top, worth):
        top.moment = ["row", None, 0]

    def back_over(self, top, worth):
        self.frames.pop()
        if not self.frames:
            self.end = ("back", worth)
        elif top.hook is None:
            beneath = self.frames[-1]
            beneath.pile.append(worth)
            beneath.at += 1
            beneath.moment = ["row", None, 0]

    def fault_over(self, top, worth):
        if top.guards:
            top.moment = ["caught", worth, 0]
            return
        self.frames.pop()
        if self.frames:
            self.frames[-1].moment = ["fault", worth, 0]
        else:
            self.end = ("fault", worth)

    def caught_over(self, top, worth):
        top.at, height = top.guards.pop()
        del top.pile[height:]
        top.pile.append(worth)
        top.moment = ["row", None, 0]

    def row_over(self, top, worth):
        self.rows += 1
        word, *told = top.part[2][top.at]
        if word == "back":
            top.moment = ["back", top.pile[-1], 0]
            return
        if word == "call":
            self.call_row(top, part_of(self.program, told[0]))
            return
        before = top.at
        fault = self.row(top, word, told)
        if fault is not None:
            top.moment = ["fault", fault, 0]
            return
        top.moment = ["row", None, 0]
        if not (word == "go" or (word == "if" and self.went)):
            top.at = before + 1

    def call_row(self, top, part):
        if len(self.level()) == 12:
            top.moment = ["fault", -4, 0]
            return
        numbers = [top.pile.pop() for _ in part[1]][::-1]
        top.moment = None
        self.frames.append(Frame(part, numbers))

    def row(self, top, word, told):
        """Do the row; the number of its fault or None."""
        pile = top.pile
        if word in ("look", "change", "lead", "turn"):
            return self.watching_row(top, word, told)
        if word == "throw":
            return pile[-1]
        if word in OPS:
            number, fault = op(word, pile[-2], pile[-1])
            if fault is None:
                pile[-2:] = [number]
            return fault
        if word == "get":
            if told[0] not in top.names:
                return -3
            pile.append(top.names[told[0]])
        if word == "put":
            pile.append(told[0])
        if word == "set":
            top.names[told[0]] = pile.pop()
        if word == "say":
            self.said.append(pile.pop())
        if word == "away":
            pile.pop()
        if word == "twin":
            pile += pile[-1:]
        if word == "swap":
            pile[-2:] = pile[:-3:-1]
        if word == "try":
            top.guards.append((told[0], len(pile)))
        if word == "done":
            top.guards.pop()
        if word == "if":
            self.went = pile.pop() != 0
        if word == "go" or (word == "if" and self.went):
            top.at = told[0]
        return None

    def watching_row(self, top, word, told):
        watched = self.watched()
        if watched is None:
            return -5
        if word == "look":
            if told[0] not in watched.names:
                return -3
            top.pile.append(watched.names[told[0]])
            return None
        number = top.pile[-1]
        if word == "change":
            watched.names[told[0]] = number
        if word == "lead":
            known = self.standings[watched.part[0]]
            if watched.moment[0] != "row" or not 0 <= number < len(known) or known[number] != known[watched.at]:
                return -6
            watched.at = number
        if word == "turn":
            if watched.moment[0] in ("call", "row"):
                return -6
            watched.moment[1] = number
        top.pile.pop()
        return None


def run_machine(program, hooks, name, numbers, most, standings):
    """A machine that has done so many rows, or come to its end."""
    machine = Machine(program, hooks, name, numbers, standings)
    while machine.frames and not (machine.does_a_row() and machine.rows == most):
        machine.change()
    return machine
