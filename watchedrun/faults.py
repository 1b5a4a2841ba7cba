"""What the ops come to, and the numbers of the faults that come up where nobody throws one."""

from watchedrun.basics import is_worth

OVER_BY_NOUGHT = -1
NO_WORTH = -2
NOT_SET = -3
TOO_DEEP = -4
NONE_WATCHED = -5
NOT_LET = -6

MOST_BEGUN = 12


def op_outcome(op, one, other):
    """A tuple (fault, worth) of an op over two worths: the fault's number, or the worth that it comes to."""
    if op == "over" and other == 0:
        return (OVER_BY_NOUGHT, None)
    number = op_number(op, one, other)
    if not is_worth(number):
        return (NO_WORTH, None)
    return (None, number)


def op_number(op, one, other):
    """The number that an op comes to, which may be beyond the bounds of a worth."""
    if op == "add":
        return one + other
    if op == "less":
        return one - other
    if op == "times":
        return one * other
    if op == "over":
        return one // other
    if op == "same":
        return 1 if one == other else 0
    return 1 if one < other else 0
