"""The plain walk: a run that no hook watches, told as a trace."""

from watchedrun.changing import run_on
from watchedrun.moments import Moment
from watchedrun.states import begun

MOST_ROWS = 200


def walked(program, part, numbers=(), *, most=MOST_ROWS):
    """The trace of a run of the part with these numbers, of so many rows or fewer."""
    first = begun(program, part, numbers)
    walk = []

    def heard(state, over, inner):
        walk.append(over)

    done, last = run_on(program, (), first, most, heard)
    frames, said, end = last
    return Trace(tuple(walk), said, end)


class Trace:
    """What was walked: tuples of what each moment has, what was said, and the end or None."""

    def __init__(self, walk, spoken, ended):
        self.walk = walk
        self.spoken = spoken
        self.ended = ended

    def moments(self):
        """The list of the moments, in order."""
        return [Moment(kind, depth, part, row, worth) for kind, depth, part, row, worth in self.walk]

    def said(self):
        """The list of what was said."""
        return list(self.spoken)

    def end(self):
        """("back", worth), ("fault", number), or None where the run has not ended."""
        return self.ended

    def __eq__(self, other):
        return (isinstance(other, Trace) and self.walk == other.walk and self.spoken == other.spoken
                and self.ended == other.ended)

    def __len__(self):
        return len([over for over in self.walk if over[0] == "row"])

    def __str__(self):
        return "\n".join([str(moment) for moment in self.moments()])
