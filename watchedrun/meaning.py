"""What a tree of sayings means, told without rows."""

from watchedrun.faults import MOST_BEGUN, NOT_SET, TOO_DEEP, op_outcome

MOST_SAYINGS = 60


class Fault(Exception):
    """A fault that comes up in a tree; the field number is its number."""

    def __init__(self, number):
        Exception.__init__(self, f"the fault {number}")
        self.number = number


class TooManyBegun(Exception):
    """One more saying would be begun than may be."""


def meant(tree, part, numbers=(), *, most=MOST_SAYINGS):
    """A tuple (said, end): what the tuple of that name says when it is begun with these numbers, and its end."""
    telling = Telling(tree, most)
    end = telling.end_of(part, numbers)
    return (tuple(telling.spoken), end)


class Telling:
    """A tree that is gone through once: what was said so far, and how many more sayings may be begun.

    deep is, in each method, how many tuples are begun and not ended.
    """

    def __init__(self, tree, most):
        self.tuples = {name: (names, sayings) for name, names, sayings in tree}
        self.left = most
        self.spoken = []

    def end_of(self, part, numbers):
        """The end to which the tuple of that name comes, as the first one that is begun."""
        try:
            return ("back", self.given_back(part, numbers, 1))
        except Fault as fault:
            return ("fault", fault.number)
        except TooManyBegun:
            return ("long",)

    def given_back(self, part, numbers, deep):
        """The worth that the tuple of that name gives back."""
        names, sayings = self.tuples[part]
        known = {name: number for name, number in zip(names, numbers)}
        worth = self.go_through(sayings, known, deep)
        return 0 if worth is None else worth

    def go_through(self, sayings, known, deep):
        """Go through sayings; told is the worth that one of them gives back, None where none does."""
        for saying in sayings:
            worth = self.go_through_one(saying, known, deep)
            if worth is not None:
                return worth
        return None

    def go_through_one(self, saying, known, deep):
        """Go through one saying, as go_through does."""
        self.count_one()
        word = saying[0]
        if word == "try":
            return self.go_through_try(saying, known, deep)
        if word == "while":
            return self.go_through_while(saying, known, deep)
        if word == "set":
            known[saying[1]] = self.worth_of(saying[2], known, deep)
            return None
        worth = self.worth_of(saying[1], known, deep)
        if word == "if":
            return self.go_through(saying[2] if worth != 0 else saying[3], known, deep)
        if word == "throw":
            raise Fault(worth)
        if word == "back":
            return worth
        self.spoken.append(worth)
        return None

    def go_through_while(self, saying, known, deep):
        """Go through a while, whose beginning is counted, but none of the later times."""
        while self.worth_of(saying[1], known, deep) != 0:
            worth = self.go_through(saying[2], known, deep)
            if worth is not None:
                return worth
            self.count_one()
        return None

    def go_through_try(self, saying, known, deep):
        """Go through a try: its second sayings stand outside of its guard."""
        try:
            return self.go_through(saying[1], known, deep)
        except Fault as fault:
            known[saying[2]] = fault.number
        return self.go_through(saying[3], known, deep)

    def count_one(self):
        """Count a saying that is to be begun."""
        if self.left <= 0:
            raise TooManyBegun("as many sayings are begun as may be")
        self.left -= 1

    def worth_of(self, value, known, deep):
        """The worth to which a value comes."""
        if not isinstance(value, tuple):
            return value
        word = value[0]
        if word == "name":
            if value[1] not in known:
                raise Fault(NOT_SET)
            return known[value[1]]
        if word == "call":
            return self.called(value[1], [self.worth_of(inner, known, deep) for inner in value[2]], deep)
        one = self.worth_of(value[1], known, deep)
        other = self.worth_of(value[2], known, deep)
        fault, worth = op_outcome(word, one, other)
        if fault is not None:
            raise Fault(fault)
        return worth

    def called(self, part, numbers, deep):
        """The worth to which a call comes, whose values have come to these numbers."""
        if deep >= MOST_BEGUN:
            raise Fault(TOO_DEEP)
        return self.given_back(part, numbers, deep + 1)
